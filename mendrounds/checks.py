"""Checks: what a form asks of its fields, and what follows if it does not get that."""
from mendrounds.errors import BadCheck
from mendrounds.layouts import first_wrong, is_name
from mendrounds.tokens import token_of

SILENT = "silent"
STOPS = "stops"
REPAIRS = "repairs"


def _are_different(thing):
    """Whether any value is a list or tuple that has nothing twice."""
    return isinstance(thing, (list, tuple)) and all([thing.count(one) == 1 for one in thing])


def _are_blames(thing, layout):
    return _are_different(thing) and all([one in layout for one in thing])


def _are_earlier(thing, name):
    return _are_different(thing) and all([is_name(one) and one != name for one in thing])


def _are_stand_ins(thing, layout):
    if not isinstance(thing, dict) or len(thing) == 0:
        return False
    return all([name in layout for name in thing]) and first_wrong(layout, thing) is None


def _part(word, items):
    """A part of the line of a check, which is left out if it has no items."""
    return [word, " , ".join(items)] if items else []


class Check:
    """A check tells a complaint if it fails."""

    KIND = "check"

    def __init__(self, name, needs, *, blames=(), after=()):
        self._begin(name, needs, blames, after)

    def _begin(self, name, needs, blames, after):
        # The classes below take other arguments, each of them its own; so they share this, not the method above.
        if not is_name(name):
            raise BadCheck("name")
        if not _are_blames(blames, needs.layout):
            raise BadCheck("blames")
        if not _are_earlier(after, name):
            raise BadCheck("after")
        self.name = name
        self.needs = needs
        self.blames = tuple([field for field in needs.layout.names if field in blames])
        self.after = tuple(after)
        self._instead = {}

    @property
    def is_telling(self):
        """Whether it tells a complaint if it fails."""
        return SILENT not in self.effects()

    @property
    def stops(self):
        """Whether the checks behind it are not read if it fails."""
        return STOPS in self.effects()

    @property
    def instead(self):
        """The values that the checks behind it see if it fails."""
        return {field: self._instead[field] for field in self._instead}

    def effects(self):
        """What it does beside what each check does: a list of words."""
        return []

    def __str__(self):
        stand_ins = [f"{field} = {token_of(self._instead[field])}" for field in self._instead]
        parts = [*_part("instead", stand_ins), *_part("after", self.after), *_part("blames", self.blames)]
        return " ".join([self.KIND, self.name, "needs", str(self.needs), *parts])

    def __eq__(self, other):
        return isinstance(other, Check) and self.needs.layout == other.needs.layout and str(self) == str(other)


class Guard(Check):
    """A guard is silent."""

    KIND = "guard"

    def __init__(self, name, needs, *, after=()):
        self._begin(name, needs, (), after)

    def effects(self):
        """What the next class gives, and that it is silent."""
        return [*super().effects(), SILENT]


class Barrier(Check):
    """A barrier stops the report if it fails."""

    KIND = "barrier"

    def __init__(self, name, needs, *, blames=(), after=()):
        self._begin(name, needs, blames, after)

    def effects(self):
        """What the next class gives, and that it stops the report."""
        return [*super().effects(), STOPS]


class Repair(Check):
    """A repair has values that stand in if it fails."""

    KIND = "repair"

    def __init__(self, name, needs, *, instead, blames=(), after=()):
        self._begin(name, needs, blames, after)
        self._stand_in(instead)

    def _stand_in(self, instead):
        layout = self.needs.layout
        if not _are_stand_ins(instead, layout):
            raise BadCheck("instead")
        self._instead = {field: instead[field] for field in layout.names if field in instead}

    def effects(self):
        """What the next class gives, and that it repairs."""
        return [*super().effects(), REPAIRS]


class Default(Guard, Repair):
    """A default is a guard and a repair."""

    KIND = "default"

    def __init__(self, name, needs, *, instead, after=()):
        self._begin(name, needs, (), after)
        self._stand_in(instead)


class Exit(Guard, Barrier):
    """An exit is a guard and a barrier."""

    KIND = "exit"

    def __init__(self, name, needs, *, after=()):
        self._begin(name, needs, (), after)


def made(kind, name, needs, blames, after, instead):
    """The check of a kind; what checks of this kind do not have is left out."""
    if kind == Guard.KIND:
        return Guard(name, needs, after=after)
    if kind == Exit.KIND:
        return Exit(name, needs, after=after)
    if kind == Default.KIND:
        return Default(name, needs, instead=instead, after=after)
    if kind == Barrier.KIND:
        return Barrier(name, needs, blames=blames, after=after)
    if kind == Repair.KIND:
        return Repair(name, needs, instead=instead, blames=blames, after=after)
    return Check(name, needs, blames=blames, after=after)
