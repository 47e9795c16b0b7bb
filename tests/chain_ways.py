"""Chains of chance by ratios of whole numbers, and the chains that the tests ask about."""

from fractions import Fraction
from itertools import combinations, permutations, product
from random import Random


def random_chains(seed, many, states, most, zeros):
    """Return so many chains with 1 to `states` states; so many percent of the entries are 0."""
    rng = Random(seed)
    found = []
    while len(found) < many:
        size = rng.randint(1, states)
        rows = tuple(tuple(0 if rng.randrange(100) < zeros else rng.randint(1, most) for _ in range(size))
                     for _ in range(size))
        if all(map(any, rows)):
            found.append(rows)
    return found


def two_way_chains(seed, many):
    """Return so many chains with 2 to 5 states whose entries are the same both ways."""
    rng = Random(seed)
    found = []
    while len(found) < many:
        size = rng.randint(2, 5)
        entries = {pair: rng.choice((0, 1, 2, 5)) for pair in combinations(range(size), 2)}
        rows = tuple(tuple(entries.get((min(at, by), max(at, by)), at % 2) for by in range(size)) for at in range(size))
        if all(map(any, rows)):
            found.append(rows)
    return found


def even_chains(seed, many):
    """Return so many chains of 4 or 5 states with even parts (0, 1) and the rest, the states behind mixed."""
    rng = Random(seed)
    found = []
    while len(found) < many:
        size = rng.choice((4, 5))
        rows = []
        for at in range(size):
            ahead = (1, 3) if at < 2 else (2, 2)
            low = rng.randint(0, ahead[0])
            row = [low, ahead[0] - low] + [0] * (size - 2)
            for _ in range(ahead[1]):
                row[rng.randrange(2, size)] += 1
            times = rng.randint(1, 4)
            rows.append(tuple(entry * times for entry in row))
        order = rng.sample(range(size), size)
        found.append(tuple(tuple(rows[at][by] for by in order) for at in order))
    return found


ONE = ((7,),)
SWAP = ((0, 1), (1, 0))
ENDS = ((0, 1, 2), (0, 1, 0), (0, 0, 1))
TURN = ((0, 1, 0), (0, 0, 1), (1, 0, 0))
LINE = ((1, 1, 0, 0, 0), (1, 0, 1, 0, 0), (0, 1, 0, 1, 0), (0, 0, 1, 0, 1), (0, 0, 0, 1, 1))
HEAVY = tuple(tuple(20 if by == (at + 1) % 5 else 19 for by in range(5)) for at in range(5))
# State 2 is not reached by any other one; states 3 and 4 are never left.
SPREAD = ((1, 2, 0, 3, 0), (4, 0, 0, 0, 0), (1, 0, 0, 0, 1), (0, 0, 0, 1, 1), (0, 0, 0, 2, 0))
SPECIAL = [ONE, ((1,),), ((20,),), SWAP, ENDS, TURN, LINE, HEAVY, SPREAD, ((0, 1), (1, 1)), ((1, 1), (0, 1)),
           ((0, 1), (0, 1)), ((1, 0), (0, 1)), ((20, 1), (1, 20)), ((0, 20), (1, 19)),
           ((0, 1, 1), (2, 0, 0), (1, 0, 0)), ((0, 2, 1), (1, 0, 2), (2, 1, 0)), ((0, 3, 3), (3, 0, 3), (3, 3, 0)),
           ((0, 1, 0), (0, 1, 0), (1, 1, 1))]
MANY = SPECIAL + random_chains(1, 40, 3, 4, 40) + random_chains(2, 40, 4, 20, 50) + random_chains(3, 40, 5, 20, 30)
MANY += random_chains(4, 30, 5, 3, 65) + two_way_chains(5, 20) + even_chains(6, 20)


def chances(chain):
    """Return the probabilities of the steps."""
    return [[Fraction(entry, sum(row)) for entry in row] for row in chain]


def reach(chain, start, without=()):
    """Return the set of states that are reached from a state in one or more steps, by no step from some states."""
    queue = [start]
    found = set()
    for here in queue:
        if here in without:
            continue
        for there, entry in enumerate(chain[here]):
            if entry and there not in found:
                found.add(there)
                queue.append(there)
    return found


def is_whole(chain):
    """Return whether every state reaches every state."""
    return all(len(reach(chain, state)) == len(chain) for state in range(len(chain)))


WHOLE = [chain for chain in MANY if is_whole(chain)]


def tree_sums(chain):
    """Return, for each state, the sum over all trees of steps to it of the products of their probabilities."""
    many = len(chain)
    steps = chances(chain)
    found = []
    for root in range(many):
        total = Fraction(0)
        others = [state for state in range(many) if state != root]
        for ends in product(range(many), repeat=len(others)):
            after = dict(zip(others, ends))
            if all(leads_to(after, state, root) for state in others):
                worth = Fraction(1)
                for state, end in after.items():
                    worth *= steps[state][end]
                total += worth
        found.append(total)
    return found


def leads_to(after, state, root):
    """Return whether one comes from a state to the root, each state with one step."""
    for _ in range(len(after)):
        if state == root:
            break
        state = after[state]
    return state == root


def closed_rows(many):
    """Return all closed rows of at least two unlike states, each from its smallest state."""
    found = []
    for size in range(2, many + 1):
        for states in combinations(range(many), size):
            found += [(states[0], *rest) for rest in permutations(states[1:])]
    return found


def all_parts(many):
    """Return all parts of so many states."""
    found = [()]
    for state in range(many):
        found = [parts[:at] + (parts[at] + (state,),) + parts[at + 1:] for parts in found for at in range(len(parts))] \
            + [parts + ((state,),) for parts in found]
    return [tuple(sorted(parts)) for parts in found]


def is_even(chain, parts):
    """Return whether from any two states of one part steps into each part are equally likely."""
    steps = chances(chain)
    return all(sum(steps[one][by] for by in into) == sum(steps[other][by] for by in into)
               for part in parts for one in part for other in part for into in parts)


def lies_within(finer, parts):
    """Return whether every tuple lies within one of the others."""
    return all(any(set(small) <= set(part) for part in parts) for small in finer)
