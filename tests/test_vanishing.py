"""mendrounds/vanishing.py: points 28, 29 and 33, complaints that vanish, leaks and false alarms."""
import random
import unittest

from grammar import tree_holds
from mendrounds.errors import BadFilling, NoCheck, NotTold, TooMany
from mendrounds.forms import Form
from mendrounds.spaces import Space
from mendrounds.vanishing import alone, false_alarm, fate, is_clean, is_vanishing, leak, must_vanish, told_at, vanishing
from plans import TELLING
from samples import BOTH, ORDERED, TURNS, WRONG_FILLINGS, ab, fields, wide_form
from support import STRANGE, error_of
from walks import odd_filling, same_pattern, worlds

# At a = 0 and b = 1 the second complaint must vanish, at a = 0 and b = 0 it stays.
MUST = fields("check one needs a > 0 blames a", "check two needs a > 0 and b > 0 blames b")
SILENT = fields("guard no needs false")
WRONG_NAMES = [one for one in STRANGE if one not in ("there", "order")] + ["ther", "There", ("there",), ["there"], {"there": 1}]


def every(form):
    space = Space.of(form)
    return [space.fill(pattern) for pattern in space.each()]


def pattern_of(form, filling):
    return None if filling is None else Space.of(form).pattern_of(filling)


class Fates(unittest.TestCase):
    """Point 28."""

    def test_the_example(self):
        self.assertEqual(fate(BOTH, ab(None, 3), "order"), "may")
        self.assertEqual(fate(BOTH, ab(None, 3), "there"), "stays")
        self.assertEqual(fate(ORDERED, ab(None, 3), "there"), "stays")
        self.assertEqual(fate(BOTH, ab(None, None), "order"), "stays")

    def test_each_answer(self):
        self.assertEqual(fate(MUST, ab(0, 1), "two"), "must")
        self.assertEqual(fate(MUST, ab(0, 0), "two"), "stays")
        self.assertEqual(fate(MUST, ab(0, 0), "one"), "stays")
        either = fields("check one needs a > 0 blames a", "check two needs a > b blames b")
        self.assertEqual(fate(either, ab(0, 5), "two"), "may")
        self.assertEqual(fate(either, ab(0, 0), "two"), "must")
        self.assertEqual(fate(either, ab(-1, 0), "two"), "must")

    def test_the_only_complaint_stays(self):
        for form, filling, name in [(MUST, ab(1, 0), "two"), (ORDERED, ab(3, 3), "order"), (TURNS, ab(1, 2), "up"), (TURNS, ab(2, 1), "down")]:
            self.assertEqual(form(filling).told, (name,))
            self.assertEqual(fate(form, filling, name), "stays")

    def test_without_a_change_of_the_others_it_stays(self):
        form = fields("check one needs a > 0", "check two needs a > 0 or b > 0 blames b")
        self.assertEqual(fate(form, ab(0, 0), "two"), "stays")
        form = fields("check one needs a > 0 blames a", "check never needs false blames a", "check two needs a > 0 blames b")
        self.assertEqual(fate(form, ab(0, 0), "two"), "stays")
        self.assertEqual(fate(form, ab(0, 0), "one"), "stays")

    def test_fields_that_the_check_blames_too_are_not_changed(self):
        form = fields("check one needs a > 0 and b > 0 blames a , b", "check two needs a > 0 blames a")
        self.assertEqual(fate(form, ab(0, 0), "two"), "stays")
        form = fields("check one needs a > 0 and b > 0 blames a , b", "check two needs a > 0 blames b")
        self.assertEqual(fate(form, ab(0, 1), "two"), "must")
        self.assertEqual(fate(form, ab(0, 0), "two"), "stays")

    def test_all_told_checks_count(self):
        form = fields("check one needs a > 0 blames a", "check two needs b > 0 blames b", "check three needs a > 0 and b > 0")
        self.assertEqual(fate(form, ab(0, 0), "three"), "must")
        self.assertEqual(fate(form, ab(0, 0), "one"), "stays")
        self.assertIsNotNone(vanishing(form, "three"))

    def test_a_check_that_is_skipped_after_a_change_is_met_by_its_condition(self):
        """A change that leaves the check out makes it vanish, too; the others must be met even where they are left out."""
        form = fields("guard plain needs a != 5", "check one needs a != 3 blames a", "check two needs b > 0 after plain blames b")
        self.assertEqual(fate(form, ab(3, 0), "two"), "may")
        form = fields("guard plain needs a != 5", "check one needs b > 3 after plain blames a", "check two needs b > 0 blames b")
        self.assertEqual(fate(form, ab(3, 0), "two"), "stays")

    def test_random_forms(self):
        chance = random.Random(41)
        found = []
        for world in worlds(41, 150):
            for filling in [odd_filling(chance, world) for _ in range(4)] + every(world.form)[:12]:
                for name in world.form.names:
                    if name in world.told(filling):
                        wanted = world.fate(filling, name)
                        self.assertEqual(fate(world.form, filling, name), wanted)
                        self.assertEqual(fate(world.form, same_pattern(chance, world, filling), name), wanted)
                        found.append(wanted)
                    else:
                        self.assertEqual(error_of(NotTold, fate, world.form, filling, name), name)
        for answer in ("stays", "may", "must"):
            self.assertGreater(found.count(answer), 5, answer)

    def test_wrong_inputs(self):
        for wrong, held in WRONG_FILLINGS:
            self.assertEqual(error_of(BadFilling, fate, BOTH, wrong, "none"), held)
        for wrong in WRONG_NAMES:
            self.assertIs(error_of(NoCheck, fate, BOTH, ab(1, 2), wrong), wrong)
            self.assertIs(error_of(NoCheck, fate, wide_form(80), {"n": 3}, wrong), wrong)
        self.assertEqual(error_of(NotTold, fate, BOTH, ab(1, 2), "order"), "order")
        self.assertEqual(error_of(NotTold, fate, ORDERED, ab(None, 2), "order"), "order")
        self.assertEqual(error_of(NotTold, fate, wide_form(80), {"n": 3}, "some"), "some")
        self.assertEqual(error_of(NotTold, fate, SILENT, ab(1, 2), "no"), "no")
        self.assertEqual(error_of(TooMany, fate, wide_form(80), {"n": None}, "some"), "patterns")
        self.assertEqual(fate(wide_form(79), {"n": None}, "some"), "stays")
        self.assertEqual(fate(name="order", filling=ab(None, 3), form=BOTH), "may")


class Vanishing(unittest.TestCase):
    """Points 28 and 33."""

    def test_the_example(self):
        filling, other = vanishing(BOTH, "order")
        self.assertEqual(pattern_of(BOTH, filling), ((), (0, 0)))
        self.assertEqual((filling["a"], filling["b"]), (None, other["b"]))
        self.assertTrue(is_vanishing(BOTH, "order", (filling, other)))
        self.assertIs(type(vanishing(BOTH, "order")), tuple)
        self.assertIsNone(vanishing(BOTH, "there"))
        self.assertIsNone(must_vanish(BOTH, "order"))

    def test_must(self):
        filling = must_vanish(MUST, "two")
        self.assertEqual(MUST(filling).told, ("one", "two"))
        self.assertEqual(fate(MUST, filling, "two"), "must")
        self.assertIsNone(must_vanish(MUST, "one"))

    def test_silent_checks_do_not_vanish(self):
        form = fields("guard no needs a > 0", "default zero needs b given instead b = 0", "check one needs a > 0 blames a")
        for name in ("no", "zero"):
            self.assertEqual([call(form, name) for call in (vanishing, must_vanish, told_at, alone)], [None] * 4)

    def test_clean(self):
        for form, wanted in [(ORDERED, True), (BOTH, False), (TURNS, True), (MUST, False), (SILENT, True), (fields("check no needs false blames a"), True)]:
            self.assertIs(is_clean(form), wanted)

    def test_turns(self):
        for name in ("up", "down"):
            self.assertIsNone(must_vanish(TURNS, name))
            self.assertEqual(fate(TURNS, ab(3, 3), name), "stays")
            self.assertEqual(fate(TURNS, ab(None, 3), name), "stays")

    def test_random_forms(self):
        answers = []
        for world in worlds(42, 150):
            fillings = list(world.every_filling().values())
            clean = True
            for name in world.form.names:
                fates = [world.fate(one, name) if name in world.told(one) else None for one in fillings]
                pair = vanishing(world.form, name)
                self.check_first(world, fillings, [one in ("may", "must") for one in fates], pair and pair[0])
                self.check_first(world, fillings, [one == "must" for one in fates], must_vanish(world.form, name))
                if pair is not None:
                    self.check_pair(world, name, pair)
                    clean = False
                answers.append(pair is None)
            self.assertIs(is_clean(world.form), clean)
        self.assertGreater(answers.count(False), 8)

    def check_first(self, world, fillings, wanted, found):
        """That the filling is one of the first pattern that is wanted, or None."""
        first = [one for one, is_wanted in zip(fillings, wanted) if is_wanted][:1]
        self.assertEqual(found is None, first == [])
        if found is not None:
            self.assertEqual(world.pattern(found), world.pattern(first[0]))
            self.assertEqual(list(found), world.names)

    def check_pair(self, world, name, pair):
        filling, other = pair
        others = [one for one in world.told(filling) if one != name]
        free = world.blamed(others) - set(world.checks[name]["blames"])
        self.assertIn(name, world.told(filling))
        self.assertNotIn(name, world.told(other))
        self.assertTrue(world.meets(other, others))
        self.assertTrue(all(filling[field] == other[field] for field in world.names if field not in free))
        self.assertIs(is_vanishing(world.form, name, pair), True)
        self.assertIs(is_vanishing(world.form, name, list(pair)), False)
        self.assertIs(is_vanishing(world.form, name, pair[::-1]), False)
        self.assertIs(is_vanishing(world.form, name, (filling, filling)), False)

    def test_random_pairs(self):
        chance = random.Random(43)
        answers = []
        for world in worlds(43, 80):
            for _ in range(4):
                filling = odd_filling(chance, world)
                for other in [odd_filling(chance, world), *chance.sample(world.with_others(filling, set(world.names)), 3)]:
                    for name in world.form.names:
                        others = [one for one in world.told(filling) if one != name]
                        free = world.blamed(others) - set(world.checks[name]["blames"])
                        stays = all(filling[field] == other[field] for field in world.names if field not in free)
                        told = name in world.told(filling) and name not in world.told(other)
                        wanted = told and stays and world.meets(other, others)
                        self.assertIs(is_vanishing(world.form, name, (filling, other)), wanted)
                        answers.append(wanted)
        self.assertGreater(answers.count(True), 3)

    def test_pairs_that_just_are_not(self):
        right = (ab(None, 3), ab(1, 3))
        self.assertIs(is_vanishing(BOTH, "order", right), True)
        self.assertIs(is_vanishing(thing=right, name="order", form=BOTH), True)
        for thing in [
            list(right), right[:1], right + (ab(1, 3),), (right[0], ab(3, 3)), (right[0], ab(1, 4)), (right[0], right[0]), right[::-1],
            (right[0], None), (None, right[1]), (right[0], {"a": 1}), (right[0], {"a": True, "b": 3}), ({"a": None, "b": "x"}, right[1]),
            (ab(3, 3), ab(1, 3)), {0: right[0], 1: right[1]}, (), None, (right[0], [1, 3]), (ab(None, 3), ab(None, 3)),
        ]:
            self.assertIs(is_vanishing(BOTH, "order", thing), False)
        self.assertIs(is_vanishing(BOTH, "there", right), False)
        for thing in STRANGE:
            self.assertIs(is_vanishing(BOTH, "order", thing), False)
            self.assertIs(is_vanishing(BOTH, "order", (thing, thing)), False)
        self.assertIs(is_vanishing(MUST, "two", (ab(0, 1), ab(2, 1))), True)
        self.assertIs(is_vanishing(MUST, "two", (ab(0, 1), ab(-1, 1))), False)

    def test_no_space_is_needed_for_a_pair(self):
        wide = wide_form(80)
        self.assertIs(is_vanishing(wide, "some", ({"n": None}, {"n": 3})), False)
        form = Form.read(str(wide) + "\ncheck other needs n given")
        self.assertIs(is_vanishing(form, "other", ({"n": None}, {"n": 3})), True)


class WhatIsTold(unittest.TestCase):
    """Point 29, and where a check is told."""

    def test_told_and_alone(self):
        self.assertEqual(told_at(BOTH, "order"), ab(None, None))
        self.assertEqual(pattern_of(BOTH, alone(BOTH, "order")), ((0, 0), (0, 0)))
        self.assertIsNone(alone(BOTH, "there"))
        self.assertEqual(alone(ORDERED, "there"), ab(None, None))
        self.assertEqual(pattern_of(ORDERED, told_at(ORDERED, "order")), ((0, 0), (0, 0)))
        self.assertIsNone(told_at(fields("check yes needs true"), "yes"))

    def test_leaks(self):
        self.assertIsNone(leak(ORDERED))
        skipped = fields("guard plain needs a = 5", "check high needs b > 0 after plain blames b")
        self.assertEqual(leak(skipped), ab(None, None))
        unread = fields("exit plain needs a = 5", "check high needs b > 0 blames b")
        self.assertEqual(leak(unread), ab(None, None))
        silent = fields("guard plain needs a = 5", "guard high needs b > 0 after plain")
        self.assertIsNone(leak(silent))
        self.assertIsNone(leak(fields("check first needs a given", "check high needs b > 0 after first")))

    def test_false_alarms(self):
        self.assertIsNone(false_alarm(ORDERED))
        form = fields("default zero needs b given instead a = 0", "check high needs a > 0 blames a")
        self.assertEqual(pattern_of(form, false_alarm(form)), ((2, 0), ()))
        self.assertIsNone(false_alarm(fields("default zero needs a given instead a = 0", "check high needs a > 0 blames a")))
        silent = fields("default zero needs b given instead a = 0", "guard high needs a > 0")
        self.assertIsNone(false_alarm(silent))

    def test_random_forms(self):
        answers = {"leak": [], "alarm": []}
        for world in worlds(44, 200):
            fillings = list(world.every_filling().values())
            check_first = Vanishing.check_first
            for name in world.form.names:
                check_first(self, world, fillings, [name in world.told(one) for one in fillings], told_at(world.form, name))
                check_first(self, world, fillings, [[name] == world.told(one) for one in fillings], alone(world.form, name))
            telling = [check["name"] for check in world.plan[1] if check["kind"] in TELLING]
            wanted = [not world.told(one) and not world.meets(one, telling) for one in fillings]
            check_first(self, world, fillings, wanted, leak(world.form))
            answers["leak"].append(True in wanted)
            wanted = [any(tree_holds(world.checks[name]["tree"], one) for name in world.told(one)) for one in fillings]
            check_first(self, world, fillings, wanted, false_alarm(world.form))
            answers["alarm"].append(True in wanted)
        self.assertGreater(answers["leak"].count(True), 10)
        self.assertGreater(answers["alarm"].count(True), 10)

    def test_wrong_inputs(self):
        for wrong in WRONG_NAMES:
            for call in (vanishing, must_vanish, told_at, alone):
                self.assertIs(error_of(NoCheck, call, BOTH, wrong), wrong)
                self.assertIs(error_of(NoCheck, call, wide_form(80), wrong), wrong)
            self.assertIs(error_of(NoCheck, is_vanishing, BOTH, wrong, None), wrong)
        for call in (vanishing, must_vanish, told_at, alone):
            self.assertEqual(error_of(TooMany, call, wide_form(80), "some"), "patterns")
        for call in (is_clean, leak, false_alarm):
            self.assertEqual(error_of(TooMany, call, wide_form(80)), "patterns")
        self.assertEqual((is_clean(wide_form(79)), leak(wide_form(79)), false_alarm(wide_form(79))), (True, None, None))
        self.assertEqual((told_at(wide_form(79), "some"), vanishing(wide_form(79), "some")), ({"n": None}, None))

    def test_by_name_in_any_order(self):
        self.assertEqual(told_at(name="order", form=BOTH), ab(None, None))
        self.assertEqual(alone(name="there", form=ORDERED), ab(None, None))
        self.assertEqual(must_vanish(name="order", form=BOTH), None)
        self.assertEqual(vanishing(name="there", form=BOTH), None)
        self.assertEqual((is_clean(form=BOTH), leak(form=BOTH), false_alarm(form=BOTH)), (False, None, None))

    def test_what_is_returned_is_new(self):
        for call in (told_at, alone, vanishing):
            found = call(BOTH, "order")
            again = call(BOTH, "order")
            for one in found if isinstance(found, tuple) else (found,):
                one["a"] = "changed"
            self.assertEqual(call(BOTH, "order"), again)


if __name__ == "__main__":
    unittest.main()
