"""mendrounds/designs.py: points 31 to 33, changes of a form, its faults, and the fewest changes."""
import copy
import itertools
import random
import unittest

from mendrounds.designs import changed, fault, least_changes
from mendrounds.errors import BadChange, BadTelling, TooMany
from mendrounds.forms import Form
from mendrounds.mending import dead_end, is_play, rounds_of
from mendrounds.rounds import judge
from mendrounds.spaces import Space
from mendrounds.vanishing import is_clean, is_vanishing, vanishing
from plans import TELLING, plan_text
from samples import BOTH, ORDERED, TELLINGS, TURNS, WRONG_TELLINGS, ab, fields, wide_form
from support import STRANGE, error_of
from walks import World, heights_of, worlds

KINDS = fields(
    "check plain needs a > 0 blames a", "guard quiet needs b > 0", "barrier wall needs a < 9 after plain blames b",
    "repair mend needs b given instead b = 1 blames b", "default zero needs a given instead a = 0", "exit out needs a != 3 after quiet",
)
STOPPED = {"check": "barrier", "guard": "exit"}


def lines_of(form):
    return str(form).split("\n")[len(form.layout):]


def changed_plan(plan, changes):
    """Point 31 for plain data."""
    found = copy.deepcopy(plan)
    checks = {check["name"]: check for check in found[1]}
    for word, name, *rest in changes:
        if word == "stops":
            checks[name]["kind"] = STOPPED.get(checks[name]["kind"], checks[name]["kind"])
        elif rest[0] not in checks[name][word]:
            checks[name][word].append(rest[0])
    return found


def all_changes(plan):
    """All changes of the form of a plan."""
    names = [check["name"] for check in plan[1]]
    found = [("after", name, earlier) for at, name in enumerate(names) for earlier in names[:at]]
    for check in plan[1]:
        if check["kind"] in TELLING:
            found += [("blames", check["name"], field) for field, _ in plan[0]]
        if check["kind"] not in ("repair", "default"):
            found.append(("stops", check["name"]))
    return found


def kind_of_fault(world, rounds, clean, telling):
    """Points 32 and 33, by the words: the kind of fault, None if there is none."""
    ways = world.ways(telling)
    if any(height is None or height > rounds for height in heights_of(ways)):
        return "long"
    if any(nexts == [] for nexts in ways.values()):
        return "stuck"
    fillings = world.every_filling().values()
    if clean and any(world.fate(one, name) != "stays" for one in fillings for name in world.told(one)):
        return "vanishes"
    return None


class Changes(unittest.TestCase):
    """Point 31."""

    def check_line(self, change, at, line):
        found = changed(KINDS, [change])
        wanted = lines_of(KINDS)
        wanted[at] = line
        self.assertEqual(lines_of(found), wanted)

    def test_each_kind_of_change(self):
        self.check_line(("blames", "plain", "b"), 0, "check plain needs a > 0 blames a , b")
        self.check_line(("blames", "wall", "a"), 2, "barrier wall needs a < 9 after plain blames a , b")
        self.check_line(("blames", "mend", "a"), 3, "repair mend needs b given instead b = 1 blames a , b")
        self.check_line(("after", "quiet", "plain"), 1, "guard quiet needs b > 0 after plain")
        self.check_line(("after", "wall", "quiet"), 2, "barrier wall needs a < 9 after plain , quiet blames b")
        self.check_line(("after", "out", "plain"), 5, "exit out needs a != 3 after quiet , plain")
        self.check_line(("after", "mend", "wall"), 3, "repair mend needs b given instead b = 1 after wall blames b")
        self.check_line(("after", "zero", "mend"), 4, "default zero needs a given instead a = 0 after mend")
        self.check_line(("stops", "plain"), 0, "barrier plain needs a > 0 blames a")
        self.check_line(("stops", "quiet"), 1, "exit quiet needs b > 0")

    def test_changes_that_change_nothing(self):
        for change in [
            ("blames", "plain", "a"), ("blames", "wall", "b"), ("after", "wall", "plain"), ("after", "out", "quiet"), ("stops", "wall"), ("stops", "out"),
        ]:
            self.assertEqual(changed(KINDS, [change]), KINDS)
        self.assertEqual(changed(KINDS, []), KINDS)

    def test_one_after_another(self):
        found = changed(KINDS, [("after", "out", "wall"), ("stops", "plain"), ("after", "out", "plain"), ("blames", "plain", "b"), ("stops", "plain")])
        lines = lines_of(KINDS)
        lines[0] = "barrier plain needs a > 0 blames a , b"
        lines[5] = "exit out needs a != 3 after quiet , wall , plain"
        self.assertEqual(lines_of(found), lines)
        other = changed(KINDS, [("after", "out", "plain"), ("after", "out", "wall")])
        self.assertEqual(lines_of(other)[5], "exit out needs a != 3 after quiet , plain , wall")

    def test_the_form_that_was_passed_stays(self):
        before = str(KINDS)
        changes = [("stops", "plain"), ("blames", "plain", "b")]
        found = changed(KINDS, changes)
        self.assertEqual((str(KINDS), changes), (before, [("stops", "plain"), ("blames", "plain", "b")]))
        changes.append(("stops", "quiet"))
        self.assertEqual(lines_of(found)[1], lines_of(KINDS)[1])
        self.assertIsInstance(found, Form)

    def test_what_is_no_change(self):
        wrong = [
            ("blames", "none", "a"), ("blames", "quiet", "a"), ("blames", "zero", "a"), ("blames", "out", "a"), ("blames", "plain", "c"),
            ("blames", "plain", "plain"), ("after", "plain", "quiet"), ("after", "plain", "plain"), ("after", "quiet", "none"),
            ("after", "none", "plain"), ("after", "wall", "zero"), ("after", "quiet", "a"), ("stops", "mend"), ("stops", "zero"), ("stops", "none"),
            ("stops", "plain", "a"), ("stops", "plain", None), ("blames", "plain"), ("blames", "plain", "a", "b"), ("after", "quiet", "plain", "plain"),
            ("after", "quiet"), ["blames", "plain", "a"], ["stops", "plain"], ("Stops", "plain"), ("stop", "plain"), ("names", "plain", "a"),
            ("blames", ("plain",), "a"), ("blames", "plain", ["a"]), ("blames", ["plain"], "a"), ("after", "quiet", ["plain"]), (["stops"], "plain"),
            ("blames", "plain", None), ("after", "quiet", None), ("stops", None), ("stops",), (), ("blames",), (None, "plain", "a"), "stops", {"stops": "plain"},
            ("blames", "plain", 0), ("after", "quiet", 0), ("stops", 0), ("stops", True),
        ]
        for change in wrong + STRANGE:
            self.assertEqual(error_of(BadChange, changed, KINDS, [change]), 0, change)
            self.assertEqual(error_of(BadChange, changed, KINDS, [("stops", "plain"), ("blames", "plain", "b"), change, change]), 2)
            self.assertEqual(error_of(BadChange, least_changes, KINDS, [("stops", "plain"), change], 3), 1)

    def test_a_change_is_one_of_the_form_that_was_passed(self):
        """A check that was made a barrier may still be changed, and one behind it is not nearer than it was."""
        self.assertEqual(error_of(BadChange, changed, KINDS, [("after", "quiet", "plain"), ("after", "plain", "quiet")]), 1)
        self.assertEqual(error_of(BadChange, changed, KINDS, [("stops", "quiet"), ("blames", "quiet", "a")]), 1)

    def test_all_changes_of_random_forms(self):
        chance = random.Random(61)
        for world in worlds(61, 60):
            changes = all_changes(world.plan)
            for _ in range(4):
                some = [chance.choice(changes) for _ in range(chance.randint(1, 4))] if changes else []
                self.assertEqual(str(changed(world.form, some)), plan_text(changed_plan(world.plan, some)))
            names = [*world.form.names, "none"]
            for word, name, other in itertools.product(["blames", "after", "stops"], names, [*world.names, *names]):
                change = (word, name, other)
                if change not in changes:
                    self.assertEqual(error_of(BadChange, changed, world.form, [change]), 0)
            for name in names:
                if ("stops", name) not in changes:
                    self.assertEqual(error_of(BadChange, changed, world.form, [("stops", name)]), 0)

    def test_no_space_is_needed(self):
        self.assertEqual(str(changed(wide_form(80), [("stops", "some")])).split()[2], "barrier")
        self.assertEqual(changed(changes=[], form=KINDS), KINDS)


class Faults(unittest.TestCase):
    """Points 32 and 33."""

    def test_long(self):
        for rounds in (0, 1):
            found = fault(ORDERED, rounds)
            self.assertEqual((found[0], len(found), len(found[1])), ("long", 2, rounds + 1))
            self.assertTrue(is_play(ORDERED, found[1]))
            self.assertEqual(rounds_of(ORDERED, found[1]), rounds + 1)
        self.assertIsNone(fault(ORDERED, 2))
        self.assertIsNone(fault(ORDERED, 100))
        for rounds in (0, 1, 7, 100):
            found = fault(TURNS, rounds)
            self.assertEqual((found[0], len(found[1])), ("long", rounds + 1))
            self.assertTrue(is_play(TURNS, found[1]))
            self.assertEqual(rounds_of(TURNS, found[1]), rounds + 1)

    def test_the_telling(self):
        self.assertIsNone(fault(BOTH, 1))
        found = fault(BOTH, 1, telling="first")
        self.assertEqual((found[0], len(found[1])), ("long", 2))
        self.assertTrue(is_play(BOTH, found[1], telling="first"))
        self.assertIsNone(fault(BOTH, 2, telling="first"))
        two = fields("check high needs a > 0 blames a", "check no needs a > 0")
        self.assertIsNone(fault(two, 1, clean=False, telling="all"))
        self.assertEqual(fault(two, 1, telling="first"), None)

    def test_stuck(self):
        form = fields("check no needs a given")
        self.assertEqual(fault(form, 1), ("stuck", ab(None, None)))
        self.assertEqual(fault(form, 0)[0], "long")
        self.assertEqual(fault(form, 1, clean=True, telling="first"), ("stuck", ab(None, None)))
        self.assertEqual(fault(TURNS, 3)[0], "long")
        self.assertEqual(fault(fields("check no needs false blames a"), 5), ("stuck", dead_end(fields("check no needs false blames a"))))

    def test_vanishes_only_if_clean_is_asked(self):
        self.assertIsNone(fault(BOTH, 1))
        self.assertIsNone(fault(BOTH, 1, clean=False))
        for telling, rounds in (("all", 1), ("first", 2)):
            found = fault(BOTH, rounds, clean=True, telling=telling)
            self.assertEqual(found[:2], ("vanishes", "order"))
            self.assertEqual(len(found), 4)
            self.assertTrue(is_vanishing(BOTH, "order", found[2:]))
        self.assertIsNone(fault(ORDERED, 2, clean=True))
        self.assertEqual(fault(BOTH, 0, clean=True)[0], "long")

    def test_vanishes_for_the_first_check_that_does(self):
        lines = ["check low needs a > 0 blames a", "check mid needs a > 0 and b > 0 blames b", "check high needs a > 0 and b > 1 blames b"]
        form = fields(*lines)
        self.assertIsNotNone(vanishing(form, "high"))
        self.assertEqual(fault(form, 3, clean=True)[:2], ("vanishes", "mid"))
        turned = fields(*lines[:1], *lines[:0:-1])
        self.assertEqual(fault(turned, 3, clean=True)[:2], ("vanishes", "high"))

    def test_nothing_is_told(self):
        self.assertIsNone(fault(fields("guard no needs false"), 0, clean=True))
        self.assertIsNone(fault(fields("check yes needs true"), 0, clean=True, telling="first"))

    def test_random_forms(self):
        found = []
        for world in worlds(62, 60):
            for telling in TELLINGS:
                for rounds in (0, 1, 2, 3):
                    for clean in (False, True):
                        wanted = kind_of_fault(world, rounds, clean, telling)
                        answer = fault(world.form, rounds, clean=clean, telling=telling)
                        self.assertEqual(answer and answer[0], wanted)
                        self.check_fault(world, answer, rounds, telling)
                        found.append(wanted)
        for kind in (None, "long", "stuck", "vanishes"):
            self.assertGreater(found.count(kind), 3, kind)

    def check_fault(self, world, answer, rounds, telling):
        if answer is not None:
            self.assertIs(type(answer), tuple)
            self.assertEqual(len(answer), {"long": 2, "stuck": 2, "vanishes": 4}[answer[0]])
            if answer[0] == "long":
                self.assertIs(type(answer[1]), tuple)
                self.assertEqual((len(answer[1]), world.rounds(answer[1])), (rounds + 1, rounds + 1))
                self.assertTrue(world.is_play(answer[1], telling))
            elif answer[0] == "stuck":
                self.assertTrue(world.told(answer[1]))
                self.assertEqual(world.mendings(answer[1], telling), {})
            else:
                first = [name for name in world.form.names if vanishing(world.form, name) is not None][0]
                self.assertEqual(answer[1], first)
                self.assertIn(world.fate(answer[2], first), ("may", "must"))
                self.assertTrue(is_vanishing(world.form, first, answer[2:]))

    def test_wrong_inputs(self):
        for wrong in WRONG_TELLINGS:
            self.assertEqual(error_of(BadTelling, fault, wide_form(80), 3, telling=wrong), wrong)
        self.assertEqual(error_of(TooMany, fault, wide_form(80), 3), "patterns")
        self.assertIsNone(fault(wide_form(79), 1, clean=True))
        self.assertEqual(fault(telling="first", clean=True, rounds=2, form=ORDERED), None)

    def test_what_is_returned_is_new(self):
        for form, rounds in [(ORDERED, 1), (TURNS, 5), (BOTH, 1)]:
            found = fault(form, rounds, clean=True)
            again = fault(form, rounds, clean=True)
            for one in found[1] if found[0] == "long" else found[2:]:
                one.clear()
            self.assertEqual(fault(form, rounds, clean=True), again)


class LeastChanges(unittest.TestCase):
    """Point 32."""

    def test_a_good_form_needs_none(self):
        self.assertEqual(least_changes(ORDERED, [], 2), [()])
        self.assertEqual(least_changes(ORDERED, [("stops", "there"), ("after", "order", "there")], 2), [()])
        self.assertEqual(least_changes(ORDERED, [], 2, clean=True, telling="first"), [()])

    def test_an_empty_pool(self):
        self.assertEqual(least_changes(ORDERED, [], 1), [])
        self.assertEqual(least_changes(TURNS, [], 100), [])

    def test_all_least_sets(self):
        pool = [("stops", "order"), ("after", "order", "there"), ("blames", "there", "a"), ("stops", "there"), ("after", "order", "there")]
        self.assertEqual(least_changes(BOTH, pool, 2, clean=True), [(1,), (3,), (4,)])
        self.assertEqual(least_changes(BOTH, pool, 1, clean=True), [])
        self.assertEqual(least_changes(BOTH, pool, 1), [()])
        self.assertEqual(least_changes(BOTH, pool[:1] + pool[2:3], 2, clean=True), [])

    def test_two_are_needed(self):
        pool = [("blames", "wide", "a"), ("blames", "high", "a"), ("blames", "wide", "b"), ("blames", "high", "a")]
        form = fields("check high needs a > 0", "check wide needs b > 0")
        self.assertEqual(least_changes(form, pool, 1), [(1, 2), (2, 3)])
        self.assertEqual(least_changes(form, pool[:2], 1), [])
        self.assertEqual(least_changes(form, pool[::-1], 1), [(0, 1), (1, 2)])

    def test_three_are_needed(self):
        form = Form.read("\n".join([
            "number a", "word b", "word c", "check one needs a > 0", "check two needs b given", "check three needs c given",
        ]))
        pool = [("blames", "one", "a"), ("blames", "two", "b"), ("blames", "three", "c"), ("blames", "two", "b"), ("stops", "one")]
        self.assertEqual(least_changes(form, pool, 1), [(0, 1, 2), (0, 2, 3)])
        self.assertEqual(least_changes(form, pool[::-1], 1), [(1, 2, 4), (2, 3, 4)])

    def test_more_changes_may_be_worse(self):
        """One more blamed field opens a ring: then the form is not good with all changes."""
        form = Form.read("\n".join([
            "number a", "word b", "check one needs a != 1 blames a", "check two needs a != 2 or b = 'no' blames b", "check three needs b != 'off'",
        ]))
        pool = [("blames", "two", "a"), ("blames", "three", "b")]
        self.assertEqual(fault(form, 3)[0], "stuck")
        self.assertEqual([fault(changed(form, pool[at:]), 3) is None for at in (0, 1)], [False, True])
        self.assertEqual(fault(changed(form, pool), 3)[0], "long")
        self.assertEqual(least_changes(form, pool, 3), [(1,)])
        self.assertEqual(least_changes(form, pool[:1], 3), [])

    def slow(self, world, pool, rounds, clean, telling):
        good = []
        for size in range(len(pool) + 1):
            for chosen in itertools.combinations(range(len(pool)), size):
                design = World(changed_plan(world.plan, [pool[at] for at in chosen]))
                if kind_of_fault(design, rounds, clean, telling) is None:
                    good.append(chosen)
        return good

    def test_random_forms(self):
        chance = random.Random(63)
        sizes = []
        for at, world in enumerate(worlds(63, 120, (("a", "number"), ("b", "word")))):
            changes = all_changes(world.plan)
            pool = [chance.choice(changes) for _ in range(chance.choice([1, 2, 3]))] if changes else []
            if at % 2 == 0:
                world, taken = self.with_fewer_blames(world)
                pool = (taken + pool)[:4]
                chance.shuffle(pool)
            rounds, clean, telling = chance.choice([1, 1, 2]), chance.random() < 0.5, chance.choice(TELLINGS)
            good = self.slow(world, pool, rounds, clean, telling)
            wanted = [one for one in good if len(one) == len(good[0])]
            found = least_changes(world.form, pool, rounds, clean=clean, telling=telling)
            self.assertEqual(found, wanted)
            self.assertTrue(all(type(one) is tuple for one in found))
            sizes += [len(one) for one in found]
        self.assertGreater(sizes.count(1), 5)
        self.assertGreater(sizes.count(2), 1)

    def with_fewer_blames(self, world):
        """The form without what its checks blame, and the changes that give it back."""
        plan = copy.deepcopy(world.plan)
        taken = [("blames", check["name"], field) for check in plan[1] for field in check["blames"]]
        for check in plan[1]:
            check["blames"] = []
        return World(plan), taken

    def test_five_and_six(self):
        pool = [("stops", "there"), ("stops", "order"), ("blames", "there", "a"), ("blames", "order", "a"), ("stops", "order")]
        self.assertEqual(least_changes(BOTH, pool, 2, clean=True), [(0,), (3,)])
        self.assertEqual(error_of(TooMany, least_changes, BOTH, pool + pool[:1], 2), "changes")
        self.assertEqual(error_of(TooMany, least_changes, BOTH, [None] * 6, 2), "changes")
        self.assertEqual(error_of(BadChange, least_changes, BOTH, pool[:4] + [None], 2), 4)

    def test_the_order_of_errors(self):
        wide = wide_form(80)
        for wrong in WRONG_TELLINGS:
            self.assertEqual(error_of(BadTelling, least_changes, wide, [None] * 6, 2, telling=wrong), wrong)
        self.assertEqual(error_of(TooMany, least_changes, wide, [None] * 6, 2), "changes")
        self.assertEqual(error_of(BadChange, least_changes, wide, [("stops", "some"), None], 2), 1)
        self.assertEqual(error_of(TooMany, least_changes, wide, [], 2), "patterns")

    def test_sixty_patterns(self):
        self.assertEqual(len(Space.of(wide_form(29))), 60)
        self.assertEqual(least_changes(wide_form(29), [("stops", "some")], 1), [()])
        self.assertEqual(least_changes(wide_form(29, blamed=False), [("blames", "some", "n")], 1), [(0,)])
        self.assertEqual(error_of(TooMany, least_changes, wide_form(30), [("stops", "some")], 1), "patterns")
        words = " , ".join(["'" + "abcdefgh"[at // 8] + "abcdefgh"[at % 8] + "'" for at in range(59)])
        form = Form.read(f"word w\ncheck some needs w in ( {words} )")
        self.assertEqual(len(Space.of(form)), 61)
        self.assertEqual(error_of(TooMany, least_changes, form, [], 1), "patterns")

    def test_by_name_and_without_changing_the_pool(self):
        pool = [("after", "order", "there")]
        self.assertEqual(least_changes(telling="first", clean=True, rounds=2, pool=pool, form=BOTH), [(0,)])
        self.assertEqual(pool, [("after", "order", "there")])
        found = least_changes(BOTH, pool, 2, clean=True)
        found.append(1)
        self.assertEqual(least_changes(BOTH, pool, 2, clean=True), [(0,)])

    def test_what_it_finds_is_good(self):
        for chosen in least_changes(BOTH, [("stops", "there"), ("after", "order", "there")], 2, clean=True):
            form = changed(BOTH, [[("stops", "there"), ("after", "order", "there")][at] for at in chosen])
            self.assertTrue(is_clean(form))
            self.assertIsNone(dead_end(form))
            self.assertEqual(judge(form).rounds, 2)


if __name__ == "__main__":
    unittest.main()
