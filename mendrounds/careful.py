"""The careful person: how few mendings a filling needs."""
from mendrounds.mending import Ways, check_telling
from mendrounds.values import is_whole


def _depth(depths):
    """The depth of a pattern at which something is told, from those of its mendings."""
    known = [depth for depth in depths if depth is not None]
    return 1 + min(known) if known else None


def _depths(ways):
    """The depth of each pattern, worked out from those that are let through."""
    found = {}
    waiting = list(range(len(ways.patterns)))
    ready = [at for at in waiting if ways.is_let_through(at)]
    depth = 0
    while ready:
        for at in ready:
            found[at] = depth
        depth = depth + 1
        waiting = [at for at in waiting if at not in found]
        ready = [at for at in waiting if any([other in found for other in ways.nexts(at)])]
    return tuple([found.get(at) for at in range(len(ways.patterns))])


class Advice:
    """How few mendings each filling of a form needs."""

    def __init__(self, form, telling):
        self.form = form
        self.telling = telling
        self._ways = Ways(form, telling)
        self.depths = _depths(self._ways)
        self.worst = max([depth for depth in self.depths if depth is not None], default=None)

    def __bool__(self):
        return None not in self.depths

    def depth(self, filling):
        """The depth of a filling."""
        return self.depths[self._ways.place_of(filling)]

    def play(self, filling):
        """A play of fewest mendings from the filling to one that is let through; None if there is none."""
        at = self._ways.place_of(filling)
        if self.depths[at] is None:
            return None
        path = []
        while self.depths[at] > 0:
            less = self.depths[at] - 1
            at = [other for other in self._ways.nexts(at) if self.depths[other] == less][0]
            path.append(at)
        return self._ways.follow(filling, path)

    def lost(self):
        """A lost filling of the first pattern that has one, or None."""
        if None not in self.depths:
            return None
        return self._ways.some_filling(self.depths.index(None))


def advise(form, *, telling="all"):
    """How few mendings each filling of a form needs: an Advice."""
    check_telling(telling)
    return Advice(form, telling)


def is_depths(form, thing, *, telling="all"):
    """Whether any value is right as depths."""
    check_telling(telling)
    ways = Ways(form, telling)
    if not isinstance(thing, tuple) or len(thing) != len(ways.patterns):
        return False
    if not all([entry is None or is_whole(entry) for entry in thing]):
        return False
    for at, entry in enumerate(thing):
        right = 0 if ways.is_let_through(at) else _depth([thing[other] for other in ways.nexts(at)])
        if entry != right:
            return False
    return True
