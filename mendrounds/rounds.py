"""Rounds: how often the fillings of a form can come back."""
from mendrounds.mending import Ways, check_telling
from mendrounds.values import is_whole


def weight(height):
    """What heights are compared by: None counts as more than each integer."""
    return (1, 0) if height is None else (0, height)


def _height(heights):
    """The height of a pattern at which something is told, those of its mendings being integers."""
    return 1 + max(heights) if heights else 1


def _heights(ways):
    """The height of each pattern.

    A pattern has one as soon as all its mendings have one. What is left then leads to rings.
    """
    found = {}
    ready = list(range(len(ways.patterns)))
    while ready:
        waiting = [at for at in range(len(ways.patterns)) if at not in found]
        ready = [at for at in waiting if all([other in found for other in ways.nexts(at)])]
        for at in ready:
            found[at] = 0 if ways.is_let_through(at) else _height([found[other] for other in ways.nexts(at)])
    return tuple([found.get(at) for at in range(len(ways.patterns))])


class Verdict:
    """How often each filling of a form can come back."""

    def __init__(self, form, telling):
        self.form = form
        self.telling = telling
        self.ways = Ways(form, telling)
        self.heights = _heights(self.ways)
        self.rounds = max(self.heights, key=weight)

    def __bool__(self):
        return self.rounds is not None

    def height(self, filling):
        """The height of a filling."""
        return self.heights[self.ways.place_of(filling)]

    def _highest(self, at):
        """The index of a mending from which most rounds can follow."""
        nexts = self.ways.nexts(at)
        tops = [weight(self.heights[other]) for other in nexts]
        return nexts[tops.index(max(tops))]

    def _path(self, at):
        """The indexes of patterns of a longest play from this one on, up to the first that comes again."""
        found = [at]
        while found[-1] not in found[:-1] and self.ways.nexts(found[-1]):
            found.append(self._highest(found[-1]))
        return found

    def play(self, filling):
        """A play of most rounds that begins with the filling; if there is no most, one that comes to a ring."""
        path = self._path(self.ways.place_of(filling))
        return self.ways.follow(filling, path[1:])

    def longest(self):
        """A play of most rounds, or a ring if there is no most."""
        path = self._path(self.heights.index(self.rounds))
        if self.rounds is None:
            path = path[path.index(path[-1]):]
        return self.ways.follow(self.ways.some_filling(path[0]), path[1:])

    def endure(self, filling, rounds):
        """A play of so many fillings that begins with this one, something being told at each; None if there is none."""
        path = [self.ways.place_of(filling)]
        height = self.heights[path[0]]
        if height is not None and height < rounds:
            return None
        while len(path) < rounds:
            path.append(self._highest(path[-1]))
        return self.ways.follow(filling, path[1:])


def judge(form, *, telling="all"):
    """How often each filling of a form can come back: a Verdict."""
    check_telling(telling)
    return Verdict(form, telling)


def _is_height(entry, entries):
    """Whether any value is right as the height of a pattern at which something is told, by those of its mendings."""
    if entry is None:
        return None in entries
    return is_whole(entry) and all([is_whole(one) for one in entries]) and entry == _height(entries)


def is_heights(form, thing, *, telling="all"):
    """Whether any value is right as heights."""
    check_telling(telling)
    ways = Ways(form, telling)
    if not isinstance(thing, tuple) or len(thing) != len(ways.patterns):
        return False
    for at, entry in enumerate(thing):
        if ways.is_let_through(at):
            if not is_whole(entry) or entry != 0:
                return False
        elif not _is_height(entry, [thing[other] for other in ways.nexts(at)]):
            return False
    return True
