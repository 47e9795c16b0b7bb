"""Chains of chance that run alike both ways, and parts of chains that make chains of their own (point 30)."""

from shiftcore.chains import check_chain, shares
from shiftcore.checks import is_word
from shiftcore.errors import BadParts
from shiftcore.ratios import ratio


def is_two_way(chain):
    """Return whether steps from state to state of a whole chain are as likely as steps back, in the long run."""
    found = shares(chain)
    pairs = [(at, by) for at in range(len(chain)) for by in range(len(chain))]
    return all(found[at] * chain[at][by] == found[by] * chain[by][at] for at, by in pairs)


def is_even(chain, value):
    """Return whether any value is parts from all of whose states steps into each part are equally likely."""
    check_chain(chain)
    return _are_parts(value, len(chain)) and _cut(chain, value) == value


def coarsest(chain, value):
    """Return the even parts with the fewest tuples in which every tuple lies within one of the given parts."""
    check_chain(chain)
    if not _are_parts(value, len(chain)):
        raise BadParts("not ascending tuples of states, each state once")
    found = value
    finer = _cut(chain, found)
    while finer != found:
        found = finer
        finer = _cut(chain, found)
    return found


def _are_parts(value, many):
    """Return whether a value is parts of so many states."""
    if not isinstance(value, tuple) or not all(is_word(part, 1, many, many) for part in value):
        return False
    states = [state for part in value for state in part]
    if sorted(states) != list(range(many)):
        return False
    return value == tuple(sorted([tuple(sorted(part)) for part in value]))


def _cut(chain, parts):
    """Return parts cut where steps into some part are not equally likely."""
    groups = {}
    for at, part in enumerate(parts):
        for state in part:
            groups.setdefault((at, _chances(chain[state], parts)), []).append(state)
    return tuple(sorted([tuple(group) for group in groups.values()]))


def _chances(row, parts):
    """Return the tuple of the probabilities of a step into each part, by the row of a state."""
    return tuple([ratio(sum(row[state] for state in part), sum(row)) for part in parts])
