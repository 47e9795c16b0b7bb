"""The parts of a web, and the period and the turns of a whole web (point 4)."""

from shiftcore.checks import check_web
from shiftcore.errors import NotWhole
from shiftcore.graphs import closed_parts, common_length, distances, is_one_part
from shiftcore.webs import essential


def parts(web):
    """Return the ascending tuple of the ascending tuples of states that closed walks connect."""
    check_web(web)
    return closed_parts(web[0], _arrows(web))


def is_whole(web):
    """Return whether the essential web has exactly one part, with all its states."""
    core = essential(web)
    return is_one_part(core[0], _arrows(core))


def period(web):
    """Return the greatest common divisor of the lengths of all closed walks of a whole web."""
    core = whole_core(web)
    return common_length(core[0], _arrows(core))


def turns(web):
    """Return the tuples of states that a whole web goes through in turn, the one with state 0 first."""
    core = whole_core(web)
    many = common_length(core[0], _arrows(core))
    far = distances(core[0], _arrows(core))
    rows = [[] for _ in range(many)]
    for state, steps in enumerate(far):
        rows[steps % many].append(state)
    return tuple([tuple(row) for row in rows])


def whole_core(web):
    """Return the essential web of a web, which must be whole."""
    if not is_whole(web):
        raise NotWhole("not exactly one part with all states")
    return essential(web)


def _arrows(web):
    """Return the pairs of starts and ends of the edges of a web."""
    return [(start, end) for start, end, _ in web[1]]
