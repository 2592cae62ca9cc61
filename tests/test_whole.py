"""The whole of DOC.md: its interface, point 2 over all modules, and what is done with forms of many patterns."""
import importlib
import inspect
import random
import unittest

from mendrounds.batches import Batch
from mendrounds.careful import advise, is_depths
from mendrounds.comparing import parted, slower
from mendrounds.conditions import Condition
from mendrounds.designs import changed, fault, least_changes
from mendrounds.errors import MendroundsError, TooMany
from mendrounds.forms import Form
from mendrounds.layouts import Layout
from mendrounds.mending import dead_end, is_mending, is_play, mend, mendings, rounds_of, seen
from mendrounds.reports import Report, Tally
from mendrounds.rounds import is_heights, judge
from mendrounds.sheets import Sheet, walk
from mendrounds.spaces import Space
from mendrounds.values import between, compare, is_number, is_word, number, read_number, written
from mendrounds.vanishing import alone, false_alarm, fate, is_clean, is_vanishing, leak, must_vanish, told_at, vanishing
from samples import BOTH, ORDERED, TELLINGS, ab
from support import error_of
from walks import odd_filling, worlds

FUNCTIONS = {
    "values": ["number(top, bottom=1)", "is_number(thing)", "is_word(thing)", "compare(one, other)", "between(low, high)", "written(value)",
               "read_number(text)"],
    "mending": ["seen(form, filling, *, telling='all')", "is_mending(form, filling, other, *, telling='all')",
                "mendings(form, filling, *, telling='all')", "mend(form, filling, pattern, *, telling='all')", "dead_end(form, *, telling='all')",
                "is_play(form, thing, *, telling='all')", "rounds_of(form, play)"],
    "rounds": ["judge(form, *, telling='all')", "is_heights(form, thing, *, telling='all')"],
    "careful": ["advise(form, *, telling='all')", "is_depths(form, thing, *, telling='all')"],
    "vanishing": ["fate(form, filling, name)", "vanishing(form, name)", "must_vanish(form, name)", "is_clean(form)",
                  "is_vanishing(form, name, thing)", "told_at(form, name)", "alone(form, name)", "leak(form)", "false_alarm(form)"],
    "comparing": ["parted(one, other)", "slower(one, other, *, telling='all')"],
    "designs": ["changed(form, changes)", "fault(form, rounds, *, clean=False, telling='all')",
                "least_changes(form, pool, rounds, *, clean=False, telling='all')"],
    "sheets": ["walk(form, filling, picks, *, telling='all')"],
}
CLASSES = {
    "layouts": {"Layout": ["__init__(self, fields)", "kind(self, name)", "__len__(self)", "__contains__", "__eq__", "fill(self, **values)",
                           "is_filling(self, thing)"]},
    "spaces": {"Space": ["__init__(self, layout, numbers, words)", "__len__(self)", "__contains__", "each(self)", "pattern_of(self, filling)",
                         "without(self, pattern, names)", "fill(self, pattern, *, kept=None)"]},
    "conditions": {"Condition": ["__init__(self, text, layout)", "__call__(self, filling)", "mentions(self)", "__str__", "__eq__", "__and__", "__or__",
                                 "__rshift__", "__invert__", "breach(self, other)", "implies(self, other)"]},
    "checks": {
        "Check": ["__init__(self, name, needs, *, blames=(), after=())", "effects(self)", "__str__", "__eq__"],
        "Guard": ["__init__(self, name, needs, *, after=())", "effects(self)"],
        "Barrier": ["__init__(self, name, needs, *, blames=(), after=())", "effects(self)"],
        "Repair": ["__init__(self, name, needs, *, instead, blames=(), after=())", "effects(self)"],
        "Default": ["__init__(self, name, needs, *, instead, after=())"], "Exit": ["__init__(self, name, needs, *, after=())"],
    },
    "reports": {
        "Report": ["__init__(self, form, filling)", "view(self, name)", "met(self, name)", "__iter__", "__len__", "__contains__", "__getitem__",
                   "trail(self, name)", "page(self)"],
        "Complaint": [],
        "Tally": ["__init__(self, form)", "__iadd__", "add(self, report)", "__len__", "__getitem__", "rows(self)", "page(self)"],
    },
    "forms": {"Form": ["__init__(self, layout, *checks)", "__len__", "__iter__", "__contains__", "__getitem__", "__eq__", "__str__",
                       "__call__(self, filling)", "demand(self, filling, *, name=None)", "with_check(self, check)", "in_order(self, names)"]},
    "rounds": {"Verdict": ["__bool__", "height(self, filling)", "longest(self)", "play(self, filling)", "endure(self, filling, rounds)"]},
    "careful": {"Advice": ["__bool__", "depth(self, filling)", "play(self, filling)", "lost(self)"]},
    "sheets": {"Sheet": ["__init__(self, form, filling=None, *, telling='all')", "tell(self, telling)", "__getitem__", "__setitem__",
                         "put(self, name, value)", "change(self, pairs)", "send(self)", "back(self)", "history(self)"]},
    "batches": {"Batch": ["__init__(self, form, rows, *, telling='all')", "rows(self)", "__len__", "greatest(self)", "fewest(self)",
                          "is_mending(self, thing)", "play(self)"]},
}
PROPERTIES = {
    "checks": {"Check": ["is_telling", "stops", "instead"]}, "reports": {"Report": ["filling", "accepted"]},
    "sheets": {"Sheet": ["telling", "filling", "is_closed", "rounds_so_far", "open_fields", "seen"]},
}
CLASS_METHODS = {"spaces": {"Space": "of(*things)"}, "forms": {"Form": "read(text)"}}
ATTRIBUTES = [
    (ORDERED, ["layout", "checks", "names", "numbers", "words"]), (ORDERED.checks[0], ["name", "needs", "blames", "after"]),
    (ORDERED(ab(1, 1)), ["form", "outcomes", "told", "blamed"]), (judge(ORDERED), ["form", "telling", "heights", "rounds"]),
    (advise(ORDERED), ["form", "telling", "depths", "worst"]), (Sheet(ORDERED), ["form"]), (Batch(ORDERED, [ab(1, 1)]), ["form", "telling", "told"]),
    (Space.of(ORDERED), ["layout", "numbers", "words"]), (ORDERED.checks[0].needs, ["layout", "numbers", "words"]),
    (ORDERED(ab(1, 1))["order"], ["name", "blames", "cause"]), (ORDERED.layout, ["names"]),
]
WIDE = Form.read("\n".join([
    "number a", "number b", "number c", "number d", "number e", "check order needs a < b and c < d and d < e blames a , e",
    "check low needs a > 0 and e > 0 blames a",
]))


class Interface(unittest.TestCase):

    def test_functions(self):
        for module, wanted in FUNCTIONS.items():
            found = importlib.import_module("mendrounds." + module)
            for line in wanted:
                function = vars(found)[line.split("(")[0]]
                self.assertEqual(function.__name__ + str(inspect.signature(function)), line)
                self.assertEqual(function.__module__, "mendrounds." + module)

    def test_classes_and_methods(self):
        for module, classes in CLASSES.items():
            for name, wanted in classes.items():
                found = vars(importlib.import_module("mendrounds." + module))[name]
                self.assertEqual(found.__module__, "mendrounds." + module)
                for line in wanted:
                    method = vars(found)[line.split("(")[0]]
                    if "(" in line:
                        self.assertEqual(method.__name__ + str(inspect.signature(method)), line)

    def test_properties_and_class_methods(self):
        for module, classes in PROPERTIES.items():
            for name, wanted in classes.items():
                for one in wanted:
                    self.assertIsInstance(vars(vars(importlib.import_module("mendrounds." + module))[name])[one], property)
        for module, classes in CLASS_METHODS.items():
            for name, line in classes.items():
                method = vars(vars(importlib.import_module("mendrounds." + module))[name])[line.split("(")[0]]
                self.assertIsInstance(method, classmethod)
                self.assertEqual(line, method.__func__.__name__ + str(inspect.signature(method.__func__)).replace("cls, ", ""))

    def test_attributes(self):
        for thing, names in ATTRIBUTES:
            for name in names:
                self.assertIn(name, vars(thing))

    def test_class_values(self):
        self.assertEqual((Layout.MOST, Space.MOST, Form.MOST, Batch.MOST), (5, 160, 8, 8))


def digest(thing):
    """Something to compare that is equal for objects that are made in the same way."""
    if isinstance(thing, (list, tuple)):
        return [thing.__class__, *[digest(one) for one in thing]]
    if inspect.isgenerator(thing):
        return ["generator", *thing]
    if hasattr(thing, "__dict__"):
        return [thing.__class__, sorted(name for name in vars(thing))]
    return thing


class ByName(unittest.TestCase):
    """Point 2: parameters may be passed by position or by name, those after the star by name."""

    def calls(self):
        filling, play = ab(None, 3), (ab(None, 3), ab(3, 3))
        pattern = ((0, 0), (0, 0))
        space = Space.of(BOTH)
        sheet = Sheet(BOTH)
        check = BOTH.checks[0]
        verdict, advice = judge(BOTH), advise(BOTH)
        report = BOTH(filling)
        return [
            (number, dict(top=6, bottom=4)), (is_number, dict(thing=3)), (is_word, dict(thing="a")), (compare, dict(one=1, other=2)),
            (between, dict(low=1, high=2)), (written, dict(value=(1, 2))), (read_number, dict(text="1/2")), (Layout, dict(fields=[("a", "number")])),
            (BOTH.layout.kind, dict(name="a")), (BOTH.layout.is_filling, dict(thing=filling)), (Space, dict(layout=BOTH.layout, numbers=[1], words=[])),
            (space.pattern_of, dict(filling=filling)), (space.without, dict(pattern=pattern, names=["a"])), (space.fill, dict(pattern=pattern)),
            (Condition, dict(text="a given", layout=BOTH.layout)), (check.needs, dict(filling=filling)), (check.needs.breach, dict(other=check.needs)),
            (check.needs.implies, dict(other=check.needs)), (check.__class__, dict(name="one", needs=check.needs)),
            (Report, dict(form=BOTH, filling=filling)), (report.view, dict(name="order")), (report.met, dict(name="order")),
            (report.trail, dict(name="order")), (Tally, dict(form=BOTH)), (Tally(BOTH).add, dict(report=report)), (Form.read, dict(text=str(BOTH))),
            (BOTH, dict(filling=filling)), (BOTH.demand, dict(filling=ab(1, 2))), (BOTH.with_check, dict(check=check)),
            (BOTH.in_order, dict(names=["order", "there"])), (seen, dict(form=BOTH, filling=filling)),
            (is_mending, dict(form=BOTH, filling=filling, other=ab(1, 3))), (mendings, dict(form=BOTH, filling=filling)),
            (mend, dict(form=BOTH, filling=ab(3, 3), pattern=((0, 0), (0, 1)))), (dead_end, dict(form=BOTH)), (is_play, dict(form=BOTH, thing=play)),
            (rounds_of, dict(form=BOTH, play=play)), (judge, dict(form=BOTH)), (verdict.height, dict(filling=filling)),
            (verdict.play, dict(filling=filling)), (verdict.endure, dict(filling=filling, rounds=1)), (is_heights, dict(form=BOTH, thing=(1,))),
            (advise, dict(form=BOTH)), (advice.depth, dict(filling=filling)), (advice.play, dict(filling=filling)),
            (is_depths, dict(form=BOTH, thing=(1,))), (fate, dict(form=BOTH, filling=filling, name="order")), (vanishing, dict(form=BOTH, name="order")),
            (must_vanish, dict(form=BOTH, name="order")), (is_clean, dict(form=BOTH)), (is_vanishing, dict(form=BOTH, name="order", thing=play)),
            (told_at, dict(form=BOTH, name="order")), (alone, dict(form=BOTH, name="order")), (leak, dict(form=BOTH)), (false_alarm, dict(form=BOTH)),
            (parted, dict(one=BOTH, other=ORDERED)), (slower, dict(one=ORDERED, other=BOTH)), (changed, dict(form=BOTH, changes=[("stops", "there")])),
            (fault, dict(form=BOTH, rounds=0)), (least_changes, dict(form=BOTH, pool=[], rounds=1)), (Sheet, dict(form=BOTH, filling=filling)),
            (sheet.put, dict(name="a", value=1)), (sheet.change, dict(pairs=[("a", 1)])), (sheet.tell, dict(telling="first")),
            (walk, dict(form=BOTH, filling=filling, picks=[0])), (Batch, dict(form=BOTH, rows=[filling])),
            (Batch(BOTH, [filling]).is_mending, dict(thing=[ab(1, 3)])),
        ]

    def test_each_call_in_each_way(self):
        for call, named in self.calls():
            wanted = digest(call(*named.values()))
            self.assertEqual(digest(call(**named)), wanted)
            self.assertEqual(digest(call(**dict(list(named.items())[::-1]))), wanted)

    def test_what_stands_behind_the_star(self):
        filling = ab(None, 3)
        calls = [
            (seen, BOTH, filling), (is_mending, BOTH, filling, filling), (mend, BOTH, filling, ((), ())), (dead_end, BOTH), (is_play, BOTH, ()),
            (judge, BOTH), (is_heights, BOTH, ()), (advise, BOTH), (is_depths, BOTH, ()), (slower, BOTH, BOTH), (fault, BOTH, 1), (fault, BOTH, 1, False),
            (least_changes, BOTH, [], 1), (least_changes, BOTH, [], 1, True), (Sheet, BOTH, filling), (walk, BOTH, filling, []), (Batch, BOTH, [filling]),
            (mendings, BOTH, filling),
        ]
        for call, *given in calls:
            with self.assertRaises(TypeError):
                call(*given, "all")


class ManyPatterns(unittest.TestCase):
    """Point 10: what is done with a form for which nothing is decided."""

    def test_it_can_be_worked_on(self):
        filling = dict(zip("abcde", (0, 1, 2, 3, 4)))
        self.assertEqual(Form.read(str(WIDE)), WIDE)
        self.assertEqual(WIDE(filling).told, ("low",))
        self.assertEqual(seen(WIDE, filling), ("low",))
        better = {**filling, "a": (1, 2)}
        self.assertTrue(is_mending(WIDE, filling, better))
        self.assertTrue(is_play(WIDE, (filling, better)))
        self.assertEqual(rounds_of(WIDE, (filling, better)), 1)
        sheet = Sheet(WIDE, filling)
        sheet.send()
        sheet["a"] = (1, 2)
        sheet.send()
        self.assertEqual((sheet.history(), sheet.is_closed), ((filling, better), True))
        batch = Batch(WIDE, [filling, better])
        self.assertTrue(batch.is_mending([better, better]))
        self.assertEqual(changed(WIDE, [("stops", "low")]).names, WIDE.names)
        self.assertFalse(is_vanishing(WIDE, "low", (filling, better)))

    def test_nothing_is_decided(self):
        filling = dict(zip("abcde", (5, 6, 7, 8, 9)))
        told = {**filling, "a": 0}
        self.assertTrue(WIDE(filling).accepted)
        calls = [
            lambda: list(mendings(WIDE, filling)), lambda: mend(WIDE, filling, ()), lambda: dead_end(WIDE), lambda: judge(WIDE), lambda: is_heights(WIDE, 1),
            lambda: advise(WIDE), lambda: is_depths(WIDE, 1), lambda: fate(WIDE, told, "low"), lambda: vanishing(WIDE, "low"),
            lambda: must_vanish(WIDE, "low"), lambda: is_clean(WIDE), lambda: told_at(WIDE, "low"), lambda: alone(WIDE, "low"), lambda: leak(WIDE),
            lambda: false_alarm(WIDE), lambda: parted(WIDE, WIDE), lambda: slower(WIDE, WIDE), lambda: fault(WIDE, 1), lambda: least_changes(WIDE, [], 1),
            lambda: walk(WIDE, filling, []), Batch(WIDE, [filling]).greatest, Batch(WIDE, [filling]).fewest, Batch(WIDE, [filling]).play,
            lambda: Space.of(WIDE), lambda: WIDE.checks[0].needs.implies(WIDE.checks[1].needs),
        ]
        for call in calls:
            self.assertEqual(error_of(TooMany, call), "patterns")
        self.assertTrue(issubclass(TooMany, MendroundsError))


class Results(unittest.TestCase):
    """Points 2 and 3."""

    def test_arguments_are_not_changed_and_answers_stay(self):
        chance = random.Random(91)
        for world in worlds(91, 25):
            form = world.form
            text = str(form)
            filling = odd_filling(chance, world)
            kept = dict(filling)
            for telling in TELLINGS:
                first = self.answers(form, filling, telling)
                self.assertEqual(self.answers(Form.read(text), dict(list(filling.items())[::-1]), telling), first)
                self.assertEqual(self.answers(form, filling, telling), first)
            self.assertEqual((filling, str(form)), (kept, text))

    def answers(self, form, filling, telling):
        verdict, advice = judge(form, telling=telling), advise(form, telling=telling)
        batch = Batch(form, [filling, filling], telling=telling)
        found = [
            seen(form, filling, telling=telling), list(mendings(form, filling, telling=telling)), dead_end(form, telling=telling), verdict.heights,
            verdict.play(filling), verdict.longest(), verdict.endure(filling, 5), advice.depths, advice.play(filling), advice.lost(), is_clean(form),
            leak(form), false_alarm(form), fault(form, 1, clean=True, telling=telling), walk(form, filling, [3, 1, 2], telling=telling),
            batch.greatest(), batch.fewest(), batch.play(), slower(form, form, telling=telling), parted(form, form),
        ]
        for name in form.names:
            found.extend([vanishing(form, name), must_vanish(form, name), told_at(form, name), alone(form, name)])
        return found

    def test_everything_of_one_pattern_has_the_same_answers(self):
        """Point 3: heights and depths are those of patterns, and a play of just that many rounds begins with every filling."""
        chance = random.Random(92)
        for world in worlds(92, 40):
            space = Space.of(world.form)
            patterns = list(space.each())
            for telling in TELLINGS:
                verdict, advice = judge(world.form, telling=telling), advise(world.form, telling=telling)
                for _ in range(6):
                    filling = odd_filling(chance, world)
                    at = patterns.index(space.pattern_of(filling))
                    self.assertEqual((verdict.height(filling), advice.depth(filling)), (verdict.heights[at], advice.depths[at]))
                    if verdict.height(filling) is not None:
                        self.assertEqual(rounds_of(world.form, verdict.play(filling)), verdict.heights[at])


if __name__ == "__main__":
    unittest.main()
