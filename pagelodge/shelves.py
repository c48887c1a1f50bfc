"""Shelves: the copies that a lodge keeps, and the floors below which it keeps none."""

from pagelodge.copies import are_of_one_make
from pagelodge.spans import weight


class Shelf:
    """Copies in a row, the one least lately used first, and floors of paths and tags; room None has no bound."""

    def __init__(self, *, room=None):
        self.room = room
        self.row = []
        self.path_floors = {}
        self.tag_floors = {}

    def floor_of(self, path, tags):
        """The floor of a path and tags together."""
        told = [self.path_floors.get(path, 0)] + [self.tag_floors.get(tag, 0) for tag in tags]
        return max(told)

    def tell_floor(self, count, *, paths=(), tags=()):
        """Raises the floors of paths and tags to a count and takes out the copies below; tells whether one rose."""
        path_rose = raise_floors(self.path_floors, paths, count)
        tag_rose = raise_floors(self.tag_floors, tags, count)
        self.row = [copy for copy in self.row if copy.count >= self.floor_of(copy.path, copy.tags)]
        return path_rose or tag_rose

    def fitting(self, path, heads):
        """The copies of a path that fit a row of heads, in the row's order."""
        return [copy for copy in self.row if copy.path == path and copy.fits(heads)]

    def newest(self, path, heads, clock):
        """The newest copy of a path that fits a row of heads, of several the last in the row; or None."""
        found = None
        for copy in self.fitting(path, heads):
            if found is None or not found.newer(copy, clock):
                found = copy
        return found

    def use(self, copy):
        """One of the copies comes last in the row."""
        # By origin, as a copy that was handed in may have been exchanged for a grown one since.
        used = [one for one in self.row if one.origin == copy.origin]
        self.row = [one for one in self.row if one.origin != copy.origin] + used

    def take(self, copy, heads, clock, *, keep=True):
        """Puts a copy, got for a row of heads, to the shelf."""
        fitting = self.fitting(copy.path, heads)
        newer = [one for one in fitting if one.newer(copy, clock)]
        if len(newer) == 0:
            self.row = [one for one in self.row if one not in fitting]
            if keep and not self.is_too_heavy([copy]):
                self.row.append(copy)
        elif keep:
            self.row = [grown_by(one, copy) if one in newer else one for one in self.row]
        while self.is_too_heavy(self.row):
            self.row.pop(0)

    def is_too_heavy(self, copies):
        """Whether copies weigh more than the room."""
        return self.room is not None and sum([weight(copy.parts) for copy in copies]) > self.room

    def copies(self):
        """The list of the copies in the row's order."""
        return list(self.row)

    def floors(self):
        """The list of all floors above 0: those of paths, then those of tags, each sorted."""
        return listed("path", self.path_floors) + listed("tag", self.tag_floors)


def raise_floors(floors, names, count):
    """Raises the floors of names to a count where they are lower; tells whether one rose."""
    rose = False
    for name in names:
        if count > floors.get(name, 0):
            floors[name] = count
            rose = True
    return rose


def listed(kind, floors):
    """Floors as a sorted list of tuples (kind, name, count)."""
    return [(kind, name, floors[name]) for name in sorted(floors)]


def grown_by(copy, other):
    """A copy with the parts of another one put to its own, if both are of one make."""
    if are_of_one_make(copy.mark, other.mark):
        return copy.grown(other.parts)
    return copy
