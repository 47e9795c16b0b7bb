"""Webs at which a bound of the document is just met, and webs one beyond it; most were found by search."""

# The reader meets 200 and 201 sets of states, and each of the 200 is a state of the reader.
SETS_200 = (10, (
    (0, 0, 1), (1, 1, 0), (2, 5, 2), (2, 8, 3), (3, 4, 3), (4, 4, 2), (4, 7, 3), (5, 8, 2), (5, 9, 3),
    (6, 2, 3), (6, 3, 2), (7, 5, 3), (7, 6, 2), (7, 8, 2), (8, 6, 3), (8, 7, 2), (9, 3, 3)))
SETS_201 = (10, (
    (0, 0, 1), (1, 1, 0), (2, 2, 2), (2, 9, 3), (3, 2, 3), (3, 5, 2), (4, 4, 2), (4, 6, 3), (5, 3, 3),
    (5, 6, 2), (6, 7, 2), (6, 8, 3), (7, 7, 3), (8, 4, 3), (8, 9, 2), (9, 5, 3)))
WHOLE_SETS_201 = (8, (
    (0, 0, 1), (0, 2, 0), (1, 3, 1), (1, 4, 0), (2, 4, 1), (2, 5, 0), (3, 1, 1), (3, 7, 0), (4, 3, 0),
    (4, 6, 1), (5, 6, 0), (6, 1, 0), (7, 0, 0), (7, 2, 1)))
# Whole webs; 2000 and 2001 sets of states of the reader are met with the set behind the magic word.
TRIED_2000 = (6, (
    (0, 0, 1), (0, 1, 0), (0, 3, 2), (1, 2, 0), (1, 4, 1), (1, 5, 1), (2, 1, 0), (2, 3, 0), (2, 5, 1), (2, 5, 2),
    (3, 0, 2), (3, 3, 1), (3, 4, 0), (4, 1, 1), (4, 2, 2), (4, 5, 0), (5, 0, 0), (5, 2, 1), (5, 3, 2), (5, 4, 2)))
TRIED_2001 = (6, (
    (0, 0, 1), (0, 1, 0), (0, 3, 2), (1, 2, 0), (1, 4, 1), (2, 1, 0), (2, 3, 0), (2, 5, 1), (2, 5, 2),
    (3, 0, 2), (3, 3, 1), (3, 4, 0), (4, 1, 1), (4, 2, 2), (4, 5, 0), (5, 0, 0), (5, 2, 1), (5, 4, 2)))
# The reader has 40 and 41 states.
READER_40 = (9, (
    (0, 1, 0), (0, 2, 1), (0, 5, 1), (0, 5, 2), (0, 6, 2), (0, 7, 0), (0, 7, 2), (0, 8, 2), (1, 3, 1),
    (1, 4, 0), (1, 4, 2), (1, 6, 0), (2, 8, 1), (3, 3, 0), (4, 1, 0), (4, 1, 1), (4, 4, 2), (4, 6, 2),
    (5, 0, 1), (5, 0, 2), (5, 2, 1), (6, 6, 1), (6, 8, 1), (7, 5, 2), (7, 7, 0), (8, 4, 1)))
READER_41 = (8, (
    (0, 2, 0), (0, 2, 2), (0, 7, 1), (1, 0, 1), (2, 0, 2), (2, 3, 2), (3, 0, 0), (3, 1, 1), (3, 4, 2),
    (4, 0, 1), (4, 4, 2), (4, 6, 0), (4, 6, 1), (5, 3, 1), (5, 6, 2), (6, 4, 0), (6, 7, 1), (7, 0, 2),
    (7, 2, 2), (7, 4, 2), (7, 5, 1)))
# Whole resolving webs; 2000 and 2001 sets of ends are met with the set of one state that is met at last.
# (In the first one a greater label behind the same word would lead to one set more.)
ENDS_2000 = (11, (
    (0, 0, 0), (0, 1, 1), (0, 6, 2), (1, 1, 0), (1, 2, 1), (1, 2, 2), (2, 2, 0), (2, 3, 1), (2, 10, 2), (3, 0, 2),
    (3, 3, 0), (3, 4, 1), (4, 4, 0), (4, 5, 1), (4, 8, 2), (5, 5, 0), (5, 6, 1), (5, 9, 2), (6, 5, 2), (6, 6, 0),
    (6, 7, 1), (7, 6, 0), (7, 7, 2), (7, 8, 1), (8, 4, 2), (8, 8, 0), (8, 9, 1), (9, 3, 2), (9, 9, 0), (9, 10, 1),
    (10, 0, 0), (10, 0, 1), (10, 1, 2)))
ENDS_2001 = (11, (
    (0, 0, 0), (0, 0, 2), (0, 1, 1), (1, 1, 0), (1, 2, 1), (1, 8, 2), (2, 2, 0), (2, 2, 2), (2, 3, 1), (3, 1, 2),
    (3, 3, 0), (3, 4, 1), (4, 5, 0), (4, 5, 1), (4, 6, 2), (5, 5, 0), (5, 6, 1), (5, 7, 2), (6, 6, 0), (6, 7, 1),
    (7, 7, 0), (7, 8, 1), (7, 9, 2), (8, 8, 0), (8, 9, 1), (8, 10, 2), (9, 5, 2), (9, 9, 0), (9, 10, 1), (10, 0, 0),
    (10, 0, 1), (10, 3, 2)))
# Rules whose webs have readers that meet 200 and 201 sets of states.
RULE_200 = (2, 5, (1, 0, 0, 1, 0, 1, 0, 1, 1, 0, 0, 1, 1, 1, 0, 0, 1, 0, 1, 1, 1, 1, 1, 0, 1, 1, 1, 1, 0, 1, 1, 0))
RULE_201 = (2, 5, (0, 0, 1, 0, 1, 0, 0, 0, 1, 1, 1, 1, 1, 1, 1, 0, 1, 1, 0, 0, 1, 1, 1, 1, 1, 0, 1, 0, 1, 0, 1, 1))
RULE_THREE_200 = (3, 3, (1, 1, 2, 1, 0, 2, 0, 1, 0, 2, 1, 0, 2, 1, 2, 0, 0, 1, 0, 0, 1, 2, 0, 1, 1, 2, 0))
RULE_THREE_201 = (3, 3, (2, 1, 1, 1, 0, 0, 2, 1, 1, 0, 2, 0, 0, 2, 1, 1, 0, 2, 1, 0, 0, 2, 1, 0, 2, 2, 1))


def slow(many, twins=1):
    """Return a web whose label 1 turns its states, and whose label 0 leads the last one to the first one alone.

    If there are twins, each state is one of two, and label 1 goes from one half to the other.
    """
    edges = []
    for half in range(twins):
        for state in range(many):
            first = (state + 1) % many if state == many - 1 else state
            edges.append((state + many * half, first + many * half, 0))
            edges.append((state + many * half, (state + 1) % many + many * ((half + 1) % twins), 1))
    return many * twins, tuple(sorted(edges))


def marked(gaps):
    """Return a web of the labels 0, 1, 2 in which no two marks 2 with one of these numbers of others between stand.

    State 0 has no mark near before it; state k has k - 1 labels 0 or 1 behind the last mark.
    """
    most = max(gaps) + 1
    edges = []
    for state in range(most + 1):
        onward = 0 if state in (0, most) else state + 1
        edges.extend([(state, onward, 0), (state, onward, 1)])
        if state == 0 or state - 1 not in gaps:
            edges.append((state, 1, 2))
    return most + 1, tuple(sorted(edges))


# The label 3 and the words of a mark, so many labels 0 or 1, and a mark: 1 + 399 and 1 + 400 least bars.
GAPS_400 = (0, 1, 2, 3, 7, 8)
GAPS_401 = (4, 7, 8)

# Walks of 2 edges are 32, 32 and 33, walks of 3 edges 100, 101 and more.
BLOCKS_32_100 = (3, (
    (0, 0, 1), (0, 1, 1), (0, 2, 0), (0, 2, 2), (1, 0, 0), (1, 0, 1), (1, 1, 0), (1, 1, 1), (2, 2, 0), (2, 2, 1)))
BLOCKS_32_101 = (3, (
    (0, 0, 1), (0, 1, 0), (0, 1, 2), (0, 2, 0), (1, 1, 0), (1, 1, 1), (1, 1, 2), (2, 0, 1), (2, 2, 0), (2, 2, 2)))
BLOCKS_33 = (5, (
    (0, 0, 0), (0, 0, 2), (0, 0, 3), (1, 0, 0), (1, 0, 2), (1, 2, 0), (2, 0, 1), (3, 0, 3), (3, 1, 1), (3, 3, 1),
    (3, 3, 2)))
# The states of these webs, each with a word as long as the delay (3 and 4), are 32 and 33.
AHEAD_32 = (4, (
    (0, 1, 2), (0, 3, 2), (1, 0, 0), (1, 3, 2), (2, 1, 2), (2, 2, 2), (3, 2, 1), (3, 3, 0), (3, 3, 1)))
AHEAD_33 = (4, ((0, 0, 2), (0, 1, 0), (0, 2, 0), (1, 0, 3), (2, 2, 3), (2, 3, 2), (3, 1, 2)))


def ahead(more):
    """Return a web of the delay 1 whose straightened web has 26 states and 100 edges, or one more if so told.

    The labels tell the ends: each state has one label, and four ends with unlike labels; but state 24 has two labels,
    and stands behind state 1 in the place of two ends with these labels.
    """
    edges = {(state, (4 * state + by) % 24, state % 4) for state in range(24) for by in range(4)}
    edges -= {(1, 4, 1), (1, 5, 1)}
    edges |= {(1, 24, 1), (24, 0, 0), (24, 1, 0), (24, 2, 0), (24, 3, 1)}
    return 25, tuple(sorted(edges | {(24, 6, 1)} if more else edges))


# Webs of the label 0 alone, with 24 edges; walks of 2 edges are 100 and 101.
ZEROS_100 = (6, (
    (0, 0, 0), (0, 1, 0), (0, 2, 0), (0, 3, 0), (0, 5, 0), (1, 0, 0), (1, 1, 0), (1, 2, 0), (2, 1, 0), (2, 2, 0),
    (2, 3, 0), (2, 4, 0), (2, 5, 0), (3, 2, 0), (3, 4, 0), (4, 1, 0), (4, 2, 0), (4, 4, 0), (4, 5, 0), (5, 0, 0),
    (5, 1, 0), (5, 2, 0), (5, 4, 0), (5, 5, 0)))
ZEROS_101 = (6, (
    (0, 0, 0), (0, 1, 0), (0, 2, 0), (0, 4, 0), (0, 5, 0), (1, 0, 0), (1, 1, 0), (1, 2, 0), (1, 3, 0), (1, 4, 0),
    (1, 5, 0), (2, 0, 0), (2, 1, 0), (2, 2, 0), (2, 5, 0), (3, 0, 0), (3, 5, 0), (4, 0, 0), (4, 1, 0), (4, 3, 0),
    (4, 4, 0), (4, 5, 0), (5, 0, 0), (5, 1, 0)))


def follows(many):
    """Return a web that reads just so many words of 2 labels: each label has a state, which its edges lead to."""
    pairs = [(0, 1), (1, 0), (1, 2), (2, 3), (3, 0), (0, 0), (2, 0), (3, 3), (1, 1), (0, 2), (3, 1), (2, 2), (1, 3)]
    return 4, tuple(sorted([(one, other, other) for one, other in pairs[:many]]))
