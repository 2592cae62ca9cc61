"""Points 21 to 29 of DOC.md worked out from plans, by trying fillings: for any values of some fields there are as many
values to try as can matter, those of the other fields being what they are.
"""
import random
from itertools import product

from mendrounds.errors import NoFilling
from mendrounds.spaces import Space
from oracle import fraction, pattern, value_of
from plans import TELLING, made_form, random_plan, reported

CONSTANTS = {"number": ["0"], "word": ["'red'"]}
STAND_INS = {"number": [None, 0], "word": [None, "red"]}
ODD_VALUES = {
    "number": [None, 0, 0, 1, 2, -1, (1, 3), (1, 2), (-7, 2), 10 ** 250, -(10 ** 250), (10 ** 200 + 1, 10 ** 200), 5, (9, 2)],
    "word": [None, "red", "red", "a", "b", "aa", "and", "blank", "zzzzzzzz", "c"],
}
LAYOUTS = [
    (("a", "number"), ("b", "number")), (("a", "number"), ("b", "number")), (("a", "number"), ("b", "word")),
    (("a", "word"), ("b", "word")), (("a", "number"),), (("a", "word"), ("b", "word"), ("c", "number")),
]


def tries(kind, constants, kept, many):
    """Values for a field of the kind: blank, all that are known, and so many more wherever they can stand."""
    if kind == "word":
        known = sorted({*constants, *[value for value in kept if isinstance(value, str)]})
        fresh = [word for word in ["new", "newer", "newest", "other", "another"] if word not in known]
        return [None, *known, *fresh[:many]]
    points = sorted({fraction(value) for value in [*constants, *kept] if value is not None and not isinstance(value, str)})
    found = points or [fraction(0)]
    found = found + [found[0] - k for k in range(1, many + 1)] + [found[-1] + k for k in range(1, many + 1)]
    for low, high in zip(points, points[1:]):
        found += [low + (high - low) * k / (many + 1) for k in range(1, many + 1)]
    return [None, *[value_of(one) for one in sorted(set(found))]]


class World:
    """A plan, its form, and what the document says of it."""

    def __init__(self, plan):
        self.plan = plan
        self.form = made_form(plan)
        self.names = [name for name, _ in plan[0]]
        self.kinds = [kind for _, kind in plan[0]]
        self.checks = {check["name"]: check for check in plan[1]}
        self.known = {}

    def rows(self, filling):
        key = tuple(filling[name] for name in self.names)
        if key not in self.known:
            self.known[key] = {row["check"]["name"]: row for row in reported(self.plan, filling)}
        return self.known[key]

    def told(self, filling):
        return [name for name, row in self.rows(filling).items() if row["told"]]

    def seen(self, filling, telling):
        return self.told(filling) if telling == "all" else self.told(filling)[:1]

    def meets(self, filling, names):
        return all(self.rows(filling)[name]["met"] for name in names)

    def blamed(self, names):
        return {field for name in names for field in self.checks[name]["blames"]}

    def is_mending(self, filling, other, telling):
        names = self.seen(filling, telling)
        differs = {field for field in self.names if filling[field] != other[field]}
        return names != [] and differs <= self.blamed(names) and self.meets(other, names)

    def is_play(self, play, telling):
        return all(self.is_mending(one, other, telling) for one, other in zip(play, play[1:]))

    def rounds(self, play):
        return len([one for one in play if self.told(one)])

    def pattern(self, filling):
        return pattern(self.kinds, self.form.numbers, self.form.words, [filling[name] for name in self.names])

    def with_others(self, filling, fields):
        """Enough fillings that differ from this one on these fields only."""
        kept = [filling[name] for name in self.names if name not in fields]
        constants = [*self.form.numbers, *self.form.words]
        of_kind = {kind: tries(kind, [one for one in constants if isinstance(one, str) == (kind == "word")], kept, len(fields))
                   for kind in ("number", "word")}
        pools = [of_kind[kind] if name in fields else [filling[name]] for name, kind in zip(self.names, self.kinds)]
        return [dict(zip(self.names, values)) for values in product(*pools)]

    def mendings(self, filling, telling):
        """Enough mendings: one of each pattern."""
        names = self.seen(filling, telling)
        others = self.with_others(filling, self.blamed(names)) if names else []
        return {self.pattern(other): other for other in others if self.meets(other, names)}

    def every_filling(self):
        """A filling of each pattern, the patterns ascending."""
        blank = {name: None for name in self.names}
        found = {self.pattern(one): one for one in self.with_others(blank, set(self.names))}
        return {key: found[key] for key in sorted(found)}

    def ways(self, telling):
        """For each pattern those of its mendings; None for one that is let through."""
        return {
            key: sorted(self.mendings(one, telling)) if self.told(one) else None for key, one in self.every_filling().items()
        }

    def changes_of_others(self, filling, name):
        others = [one for one in self.told(filling) if one != name]
        fields = self.blamed(others) - set(self.checks[name]["blames"])
        return [one for one in self.with_others(filling, fields) if self.meets(one, others)]

    def fate(self, filling, name):
        told = [name in self.told(one) for one in self.changes_of_others(filling, name)]
        return "stays" if all(told) else "may" if any(told) else "must"


def behind(ways):
    """All patterns that mendings lead to from each pattern."""
    found = {key: set(nexts or ()) for key, nexts in ways.items()}
    while True:
        longer = {key: found[key].union(*[found[one] for one in found[key]]) for key in found}
        if longer == found:
            return found
        found = longer


def heights_of(ways):
    """Point 26, by its words."""
    after = behind(ways)
    rings = {key for key in ways if key in after[key]}
    found = {key: None for key in ways if key in rings or after[key] & rings}

    def height(key):
        if key not in found:
            found[key] = 0 if ways[key] is None else 1 + max([height(one) for one in ways[key]], default=0)
        return found[key]

    return tuple(height(key) for key in ways)


def depths_of(ways):
    found = {key: 0 for key in ways if ways[key] is None}
    while True:
        longer = dict(found)
        for key in ways:
            known = [found[one] for one in ways[key] or () if one in found]
            if key not in found and known:
                longer[key] = 1 + min(known)
        if longer == found:
            return tuple(found.get(key) for key in ways)
        found = longer


def random_world(chance, fields=None, most=4):
    while True:
        plan = random_plan(chance, fields or chance.choice(LAYOUTS), most, 1, CONSTANTS, STAND_INS)
        telling = [check for check in plan[1] if check["kind"] in TELLING]
        for check in telling:
            if chance.random() < 0.5:
                check["blames"] = [name for name, _ in plan[0]][:chance.randint(1, 3)]
        if any(check["blames"] for check in telling):
            return World(plan)


def worlds(seed, many, fields=None, most=4):
    chance = random.Random(seed)
    return [random_world(chance, fields, most) for _ in range(many)]


def odd_filling(chance, world):
    return {name: chance.choice(ODD_VALUES[kind]) for name, kind in zip(world.names, world.kinds)}


def same_pattern(chance, world, filling):
    """Another filling of the same pattern, with odd values."""
    space = Space.of(world.form)
    kept = {}
    for name in chance.sample(world.names, len(world.names)):
        value = odd_filling(chance, world)[name]
        try:
            space.fill(space.pattern_of(filling), kept={**kept, name: value})
            kept[name] = value
        except NoFilling:
            pass
    return space.fill(space.pattern_of(filling), kept=kept)
