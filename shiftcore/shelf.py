"""A shelf of webs by names, whose changes can be taken back (point 28)."""

from shiftcore.checks import check_web
from shiftcore.errors import BadName, BadWanted, NoName, NothingToUndo
from shiftcore.readers import reader

LONGEST_NAME = 8


class Shelf:
    """Webs by names, with all changes that have not been taken back."""

    def __init__(self):
        self._webs = {}
        self._changes = []

    def put(self, name, web):
        """Store a web under a name, in place of the web that was there, if any."""
        _check_name(name)
        check_web(web)
        self._changes.append((name, self._webs.get(name)))
        self._webs[name] = web

    def drop(self, name):
        """Take a web away and return it."""
        web = self.get(name)
        self._changes.append((name, web))
        del self._webs[name]
        return web

    def get(self, name):
        """Return the web of a name."""
        _check_name(name)
        if name not in self._webs:
            raise NoName("no web under this name")
        return self._webs[name]

    def names(self):
        """Return the ascending tuple of all names."""
        return tuple(sorted(self._webs))

    def undo(self):
        """Take back the last put or drop that has not been taken back."""
        if not self._changes:
            raise NothingToUndo("no change that can be taken back")
        name, before = self._changes.pop()
        if before is None:
            del self._webs[name]
        else:
            self._webs[name] = before

    def classes(self):
        """Return the ascending tuples of names whose webs have the same shift, ordered by their first names."""
        groups = {}
        for name in sorted(self._webs):
            # Two webs have the same shift exactly if they have the same reader.
            groups.setdefault(reader(self._webs[name]), []).append(name)
        return tuple([tuple(group) for group in groups.values()])

    def least_for(self, wanted):
        """Return the names in a dict of webs whose shift no web on the shelf and no web of a smaller name has."""
        _check_wanted(wanted)
        met = {reader(web): True for web in self._webs.values()}
        found = []
        for name in sorted(wanted):
            rows = reader(wanted[name])
            if rows not in met:
                met[rows] = True
                found.append(name)
        return tuple(found)


def _is_name(value):
    """Return whether a value is a string of 1 to 8 letters from a to z."""
    if not isinstance(value, str) or not 1 <= len(value) <= LONGEST_NAME:
        return False
    return all("a" <= letter <= "z" for letter in value)


def _check_name(name):
    """Raise BadName unless a value is a name."""
    if not _is_name(name):
        raise BadName("not a string of 1 to 8 letters from a to z")


def _check_wanted(wanted):
    """Raise BadWanted, BadName or BadWeb unless a value is a dict from names to webs."""
    if not isinstance(wanted, dict):
        raise BadWanted("not a dict")
    for name in wanted:
        _check_name(name)
    for name in sorted(wanted):
        check_web(wanted[name])
