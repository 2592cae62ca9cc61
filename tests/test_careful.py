"""mendrounds/careful.py: points 25 to 27, depths and advices."""
import random
import unittest

from mendrounds.careful import Advice, advise, is_depths
from mendrounds.errors import BadFilling, BadTelling, TooMany
from mendrounds.forms import Form
from mendrounds.mending import is_play, rounds_of
from mendrounds.rounds import judge
from mendrounds.spaces import Space
from samples import BOTH, ORDERED, TELLINGS, TURNS, WRONG_FILLINGS, WRONG_TELLINGS, ab, fields, wide_form
from support import STRANGE, error_of
from walks import depths_of, odd_filling, same_pattern, worlds

SILENT = fields("guard no needs false")
# From a = 1 on, the long way goes through 2, 3 and 4; the careful person goes to 9 at once.
STAIRS = Form.read("\n".join([
    "number n", "check over needs n > 0 blames n", "check past needs n != 1 blames n", "check far needs n != 2 or n = 1 blames n",
]))


def every(form):
    space = Space.of(form)
    return [space.fill(pattern) for pattern in space.each()]


class Depths(unittest.TestCase):
    """Points 25 and 26."""

    def test_the_examples(self):
        cases = [
            (ORDERED, "all", (1, 1, 1, 1, 0, 1)), (ORDERED, "first", (1, 1, 1, 1, 0, 1)), (BOTH, "all", (1, 1, 1, 1, 0, 1)),
            (BOTH, "first", (1, 1, 1, 1, 0, 1)), (TURNS, "all", (None,) * 6), (TURNS, "first", (None,) * 6), (SILENT, "all", (0,) * 6),
        ]
        for form, telling, wanted in cases:
            advice = advise(form, telling=telling)
            self.assertIsInstance(advice, Advice)
            self.assertEqual((advice.depths, advice.telling, advice.form), (wanted, telling, form))
            self.assertIs(type(advice.depths), tuple)
        self.assertEqual(advise(ORDERED).telling, "all")

    def test_worst_and_truth(self):
        some = fields("check no needs a given", "check low needs b > 0 blames b")
        two = fields("check one needs a given blames a", "check two needs b given after one blames b")
        cases = [(ORDERED, 1, True), (TURNS, None, False), (SILENT, 0, True), (some, 1, False), (two, 2, True)]
        for form, worst, is_true in cases:
            advice = advise(form)
            self.assertEqual((advice.worst, bool(advice)), (worst, is_true))
            self.assertIs(type(advice.worst), type(worst))
        depths = [advise(some).depth(one) for one in (ab(None, None), ab(None, 1), ab(2, None), ab(2, 0), ab(2, -1), ab(2, 1))]
        self.assertEqual(depths, [None, None, 1, 1, 1, 0])

    def test_the_least_number_counts(self):
        two = fields("check one needs a > 0 blames a", "check two needs b > 0 blames b")
        for filling, depths in [(ab(0, 0), (1, 2)), (ab(1, 0), (1, 1)), (ab(1, 1), (0, 0)), (ab(None, None), (1, 2))]:
            found = [advise(two, telling=telling).depth(filling) for telling in TELLINGS]
            self.assertEqual(tuple(found), depths)
        ring = fields(
            "check there needs a given and b given blames a , b", "check up needs a > b after there blames a",
            "check apart needs a > b and b > 0 after there , up blames b",
        )
        self.assertEqual([advise(ring).depth(one) for one in (ab(None, None), ab(1, 1), ab(1, 0), ab(3, 2))], [1, 1, 1, 0])

    def test_against_the_rule_worked_out_apart(self):
        found = []
        for world in worlds(31, 150):
            for telling in TELLINGS:
                wanted = depths_of(world.ways(telling))
                advice = advise(world.form, telling=telling)
                self.assertEqual(advice.depths, wanted, str(world.form))
                known = [depth for depth in wanted if depth is not None]
                self.assertEqual(advice.worst, max(known) if known else None)
                self.assertEqual(bool(advice), None not in wanted)
                self.assertTrue(is_depths(world.form, wanted, telling=telling))
                found.extend(wanted)
        for depth in (None, 0, 1, 2):
            self.assertGreater(found.count(depth), 2, depth)

    def test_the_depth_of_any_filling(self):
        chance = random.Random(32)
        for world in worlds(32, 60):
            for telling in TELLINGS:
                depths = dict(zip(world.every_filling(), depths_of(world.ways(telling))))
                advice = advise(world.form, telling=telling)
                for _ in range(5):
                    filling = odd_filling(chance, world)
                    self.assertEqual(advice.depth(filling), depths[world.pattern(filling)])
                    self.assertEqual(advice.depth(same_pattern(chance, world, filling)), advice.depth(filling))

    def test_depths_are_not_above_heights(self):
        for world in worlds(33, 60):
            for telling in TELLINGS:
                heights = judge(world.form, telling=telling).heights
                for depth, height in zip(advise(world.form, telling=telling).depths, heights):
                    self.assertTrue(depth is None or height is None or depth <= height)

    def test_another_order_of_the_fields(self):
        lines = ["number a", "number b", "word c"]
        checks = ["check one needs a < b or c = 'x' blames b", "check two needs a given after one blames a", "check three needs c != 'y' blames c"]
        one = advise(Form.read("\n".join(lines + checks)), telling="first")
        other = advise(Form.read("\n".join(lines[::-1] + checks)), telling="first")
        for filling in every(one.form):
            self.assertEqual(one.depth(filling), other.depth(filling))


class Plays(unittest.TestCase):

    def check_play(self, world, advice, filling):
        depth = advice.depth(filling)
        play = advice.play(filling)
        self.assertEqual(play is None, depth is None)
        if play is not None:
            self.assertIs(type(play), tuple)
            self.assertEqual((len(play), play[0]), (depth + 1, filling))
            self.assertTrue(world.is_play(play, advice.telling))
            self.assertEqual(world.told(play[-1]), [])
            self.assertEqual([list(one) for one in play], [world.names] * len(play))

    def test_plays_of_random_forms(self):
        chance = random.Random(34)
        for world in worlds(34, 80):
            for telling in TELLINGS:
                advice = advise(world.form, telling=telling)
                for filling in [odd_filling(chance, world) for _ in range(4)] + every(world.form)[:8]:
                    self.check_play(world, advice, filling)
                lost = [one for one in every(world.form) if advice.depth(one) is None]
                self.assertEqual(advice.lost(), lost[0] if lost else None)

    def test_the_shortest_way(self):
        advice = advise(STAIRS)
        self.assertEqual(judge(STAIRS).rounds, None)
        for value, many in [(None, 2), (0, 2), (1, 2), (2, 2), (3, 1), ((1, 2), 1), (10 ** 200, 1), (-(10 ** 200), 2)]:
            play = advice.play({"n": value})
            self.assertEqual((len(play), play[0]), (many, {"n": value}))
            self.assertTrue(is_play(STAIRS, play))
            self.assertEqual(rounds_of(STAIRS, play), many - 1)

    def test_lost_fillings(self):
        self.assertIsNone(advise(ORDERED).lost())
        self.assertIsNone(advise(SILENT).lost())
        self.assertEqual(advise(TURNS).lost(), ab(None, None))
        self.assertIsNone(advise(TURNS).play(ab(1, 2)))
        self.assertIsNone(advise(TURNS).play(ab(None, None)))
        form = fields("check big needs b != 3 or a given blames b", "check stuck needs b != 3")
        depths = [advise(form).depth(one) for one in (ab(None, None), ab(None, 3), ab(5, None), ab(5, 3), ab(None, 5))]
        self.assertEqual(depths, [1, 1, None, None, 0])
        self.assertEqual(Space.of(form).pattern_of(advise(form).lost()), ((0, 0), ()))

    def test_what_is_passed_and_returned_is_not_shared(self):
        advice = advise(ORDERED)
        filling = {"b": 3, "a": None}
        play = advice.play(filling)
        again = advice.play(filling)
        for one in play:
            one.clear()
        self.assertEqual(filling, {"b": 3, "a": None})
        self.assertEqual(advice.play(filling), again)
        self.assertEqual(list(again[0]), ["a", "b"])
        lost = advise(TURNS)
        found = lost.lost()
        found["a"] = 1
        self.assertEqual(lost.lost(), ab(None, None))


class RightAsDepths(unittest.TestCase):
    """Point 27."""

    def test_the_right_tuple_and_each_entry_changed(self):
        two = fields("check one needs a > 0 blames a", "check two needs b > 0 after one blames b", "check no needs b != 0")
        for form in (ORDERED, BOTH, TURNS, two, SILENT):
            for telling in TELLINGS:
                depths = advise(form, telling=telling).depths
                self.assertIs(is_depths(form, depths, telling=telling), True)
                for at, entry in enumerate(depths):
                    wrongs = [None, 0, 1, 2, 3, -1, True, False, "1", (1,), [], {}, 10 ** 299]
                    for wrong in [one for one in wrongs if type(one) != type(entry) or one != entry]:
                        self.assertIs(is_depths(form, depths[:at] + (wrong,) + depths[at + 1:], telling=telling), False)

    def test_tuples_with_several_changes(self):
        chance = random.Random(35)
        for world in worlds(35, 60):
            for telling in TELLINGS:
                depths = advise(world.form, telling=telling).depths
                for _ in range(10):
                    other = tuple(entry if chance.random() < 0.7 else chance.choice([None, 0, 1, 2, 3]) for entry in depths)
                    self.assertIs(is_depths(world.form, other, telling=telling), other == depths)
                lost = tuple(None if entry else entry for entry in depths)
                self.assertIs(is_depths(world.form, lost, telling=telling), lost == depths)
                more = tuple(entry + 1 if entry else entry for entry in depths)
                self.assertIs(is_depths(world.form, more, telling=telling), more == depths)

    def test_only_that_telling(self):
        two = fields("check one needs a > 0 blames a", "check two needs b > 0 blames b")
        self.assertFalse(is_depths(two, advise(two).depths, telling="first"))
        self.assertTrue(is_depths(telling="first", thing=advise(two, telling="first").depths, form=two))

    def test_of_another_length_or_kind(self):
        depths = (1, 1, 1, 1, 0, 1)
        for wrong in [list(depths), depths + (0,), depths + (1,), depths[:-1], depths[1:], (), [], None, dict(enumerate(depths))]:
            self.assertIs(is_depths(ORDERED, wrong), False)
        for wrong in STRANGE:
            self.assertIs(is_depths(ORDERED, wrong), False)
        self.assertFalse(is_depths(SILENT, (False,) * 6))
        self.assertTrue(is_depths(TURNS, (None,) * 6))
        self.assertFalse(is_depths(ORDERED, (True, 1, 1, 1, False, 1)))


class WrongInputs(unittest.TestCase):

    def test_errors(self):
        for wrong in WRONG_TELLINGS:
            self.assertEqual(error_of(BadTelling, advise, wide_form(80), telling=wrong), wrong)
            self.assertEqual(error_of(BadTelling, is_depths, wide_form(80), None, telling=wrong), wrong)
        self.assertEqual(error_of(TooMany, advise, wide_form(80)), "patterns")
        for thing in (None, (), [1], (1,) * 162):
            self.assertEqual(error_of(TooMany, is_depths, wide_form(80), thing), "patterns")
        self.assertEqual(advise(wide_form(79)).worst, 1)
        self.assertTrue(is_depths(wide_form(79), advise(wide_form(79)).depths))

    def test_fillings_and_calls_after_refused_ones(self):
        for form in (ORDERED, TURNS):
            advice = advise(form)
            before = (advice.depths, advice.worst, advice.lost(), advice.play(ab(None, 3)))
            for wrong, held in WRONG_FILLINGS:
                self.assertEqual(error_of(BadFilling, advice.depth, wrong), held)
                self.assertEqual(error_of(BadFilling, advice.play, wrong), held)
            self.assertEqual((advice.depths, advice.worst, advice.lost(), advice.play(ab(None, 3))), before)

    def test_by_name_in_any_order(self):
        advice = advise(telling="first", form=BOTH)
        self.assertEqual((advice.telling, advice.depth(filling=ab(None, 3))), ("first", 1))
        self.assertEqual(len(advice.play(filling=ab(None, 3))), 2)


if __name__ == "__main__":
    unittest.main()
