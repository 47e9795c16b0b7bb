"""Tables that read words: rows of four next states or None, one row for each state."""

from shiftcore.ends import LABELS, all_bits, by_label, follow
from shiftcore.errors import TooMany

MOST_SETS = 200


def set_table(web):
    """Return the rows of the sets of ends of an essential web, the set of all states first."""
    many, edges = web
    if many == 0:
        return []
    arrows = by_label(edges)
    sets = [all_bits(many)]
    number = {sets[0]: 0}
    rows = []
    while len(rows) < len(sets):
        row = [follow(pairs, sets[len(rows)]) for pairs in arrows]
        for there in row:
            if there != 0 and there not in number:
                number[there] = len(sets)
                sets.append(there)
        if len(sets) > MOST_SETS:
            raise TooMany(MOST_SETS)
        rows.append(renamed(row, number))
    return rows


def renamed(row, number):
    """Return a row with the numbers that states have, None for those that have none."""
    return tuple([number.get(there) for there in row])


def smallest(rows):
    """Return the table with the fewest states that reads the same words from row 0 on."""
    kinds = {at: 0 for at in range(len(rows))}
    before = 0
    many = min(1, len(rows))
    while many != before:
        before = many
        names = {}
        fresh = {}
        for at, row in enumerate(rows):
            fresh[at] = names.setdefault((kinds[at], renamed(row, kinds)), len(names))
        kinds = fresh
        many = len(names)
    joined = {kinds[at]: renamed(row, kinds) for at, row in enumerate(rows)}
    return counted_from([joined[kind] for kind in range(many)], 0)


def counted_from(rows, first):
    """Return the part of a table that `first` reaches, its states counted as they are met."""
    met = [first] if rows else []
    number = {first: 0}
    at = 0
    while at < len(met):
        for there in rows[met[at]]:
            if there is not None and there not in number:
                number[there] = len(met)
                met.append(there)
        at += 1
    return tuple([renamed(rows[state], number) for state in met])


def label_arrows(rows):
    """Return, for each label, the list of the pairs (state, next state) of a table."""
    found = [[] for _ in LABELS]
    for start, row in enumerate(rows):
        for label, end in enumerate(row):
            if end is not None:
                found[label].append((start, end))
    return found


def table_arrows(rows):
    """Return the list of the pairs (state, next state) of a table, once for each label."""
    found = []
    for pairs in label_arrows(rows):
        found.extend(pairs)
    return found
