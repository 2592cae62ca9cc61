"""mendrounds/rounds.py: points 24, 26 and 27, heights, verdicts and their plays."""
import random
import unittest

from mendrounds.errors import BadFilling, BadTelling, TooMany
from mendrounds.forms import Form
from mendrounds.mending import dead_end, is_play, rounds_of
from mendrounds.rounds import Verdict, is_heights, judge
from mendrounds.spaces import Space
from samples import BOTH, ORDERED, TELLINGS, TURNS, WRONG_FILLINGS, WRONG_TELLINGS, ab, fields, wide_form
from support import STRANGE, error_of
from walks import heights_of, odd_filling, same_pattern, worlds

HUGE = 10 ** 280
NUMBERS = (("a", "number"), ("b", "number"), ("c", "number"))
MIXED = fields(
    "exit none needs a given or b given", "default first needs a given instead a = 0",
    "repair low needs a >= 0 or b given instead b = 0 blames a", "guard odd needs a != b",
    "barrier over needs a < b after odd blames a , b", "check zero needs b != 0 after odd , over blames b",
)


def every(form):
    space = Space.of(form)
    return [space.fill(pattern) for pattern in space.each()]


class Heights(unittest.TestCase):
    """Points 24, 26 and 27."""

    def test_the_examples(self):
        cases = [
            (ORDERED, (2, 2, 2, 1, 0, 1), (2, 2, 2, 1, 0, 1)), (BOTH, (1, 1, 1, 1, 0, 1), (2, 2, 2, 1, 0, 1)),
            (TURNS, (1, 1, 1, 1, None, None), (1, None, 1, None, None, None)),
        ]
        for form, all_told, first_told in cases:
            for telling, wanted in [("all", all_told), ("first", first_told)]:
                verdict = judge(form, telling=telling)
                self.assertIsInstance(verdict, Verdict)
                self.assertEqual((verdict.heights, verdict.telling), (wanted, telling))
                self.assertEqual(verdict.form, form)
                self.assertIs(type(verdict.heights), tuple)
            self.assertEqual(judge(form).heights, all_told)

    def test_rounds_and_truth(self):
        for form, telling, wanted in [
            (ORDERED, "all", 2), (BOTH, "all", 1), (BOTH, "first", 2), (TURNS, "all", None), (fields("guard no needs false"), "all", 0),
        ]:
            verdict = judge(form, telling=telling)
            self.assertEqual((verdict.rounds, bool(verdict)), (wanted, wanted is not None))
            self.assertIs(type(verdict.rounds), type(wanted))

    def test_a_dead_end_has_the_height_one(self):
        self.assertEqual(judge(fields("check no needs false blames a")).heights, (1,) * 6)
        self.assertEqual(judge(fields("check no needs a given")).heights, (1, 1, 0, 0, 0, 0))

    def test_a_ring_may_be_reached_from_outside(self):
        form = fields(
            "check there needs a given and b given blames a , b", "check up needs a > b after there blames a",
            "check down needs b > a after there blames b",
        )
        self.assertEqual(judge(form).heights, (None, None, None, 1, None, None))
        play = judge(form).play(ab(None, None))
        self.assertTrue(is_play(form, play))
        self.assertEqual(judge(form).height(play[-1]), None)

    def test_long_ones(self):
        lines = ["number n"]
        for at in range(7):
            lines.append(f"check over{'abcdefg'[at]} needs n > {at} blames n")
        self.assertEqual(judge(Form.read("\n".join(lines))).rounds, 1)
        self.assertEqual(judge(Form.read("\n".join(lines)), telling="first").rounds, 7)

    def test_against_the_rule_worked_out_apart(self):
        found = []
        kinds = {}
        for world in worlds(3, 150) + worlds(4, 3, NUMBERS, 3):
            for check in world.plan[1]:
                kinds.setdefault((check["kind"], check["after"] != []), True)
            for telling in TELLINGS:
                ways = world.ways(telling)
                wanted = heights_of(ways)
                verdict = judge(world.form, telling=telling)
                self.assertEqual(verdict.heights, wanted, str(world.form))
                self.assertEqual(verdict.rounds, None if None in wanted else max(wanted))
                self.assertEqual(bool(verdict), None not in wanted)
                self.assertTrue(is_heights(world.form, wanted, telling=telling))
                found.extend(wanted)
        for height in (None, 0, 1, 2, 3):
            self.assertGreater(found.count(height), 2, height)
        self.assertEqual(len(kinds), 12)

    def test_the_height_of_any_filling(self):
        chance = random.Random(5)
        for world in worlds(5, 60):
            for telling in TELLINGS:
                heights = dict(zip(world.every_filling(), heights_of(world.ways(telling))))
                verdict = judge(world.form, telling=telling)
                for _ in range(5):
                    filling = odd_filling(chance, world)
                    self.assertEqual(verdict.height(filling), heights[world.pattern(filling)])
                    other = same_pattern(chance, world, filling)
                    self.assertEqual(verdict.height(other), verdict.height(filling))

    def test_another_order_of_fields_or_checks(self):
        """The heights of fillings do not depend on the order of the fields; of independent checks that are all told neither."""
        lines = ["number a", "number b", "word c"]
        checks = ["check one needs a < b or c = 'x' blames b", "check two needs a given blames a", "check three needs c != 'y' blames c , a"]
        one = judge(Form.read("\n".join(lines + checks)))
        for turned in (lines[::-1] + checks, lines + checks[::-1], lines[1:] + lines[:1] + checks[1:] + checks[:1]):
            other = judge(Form.read("\n".join(turned)))
            for filling in every(one.form):
                self.assertEqual(other.height(filling), one.height(filling))
        renamed = Form.read("\n".join(lines + [check.replace("two", "second") for check in checks]))
        self.assertEqual(judge(renamed).heights, one.heights)

    def test_many_patterns(self):
        self.assertEqual(judge(wide_form(79)).heights, (1, *([1, 0] * 79), 1))
        self.assertEqual(error_of(TooMany, judge, wide_form(80)), "patterns")


class Plays(unittest.TestCase):
    """What a verdict shows for its heights."""

    def check_play(self, world, verdict, filling):
        play = verdict.play(filling)
        self.assertIs(type(play), tuple)
        self.assertEqual(play[0], filling)
        self.assertTrue(world.is_play(play, verdict.telling))
        self.assertTrue(all(list(one) == world.names for one in play))
        height = verdict.height(filling)
        last = play[-1]
        if height is None:
            self.assertIn(world.pattern(last), [world.pattern(one) for one in play[:-1]])
        else:
            self.assertEqual(world.rounds(play), height)
            self.assertEqual(world.mendings(last, verdict.telling), {})

    def check_endure(self, world, verdict, filling, rounds):
        height = verdict.height(filling)
        play = verdict.endure(filling, rounds)
        self.assertEqual(play is None, height is not None and height < rounds)
        if play is not None:
            self.assertIs(type(play), tuple)
            self.assertEqual((len(play), play[0], world.rounds(play)), (rounds, filling, rounds))
            self.assertTrue(world.is_play(play, verdict.telling))

    def test_plays_of_random_forms(self):
        chance = random.Random(6)
        endless = 0
        for world in worlds(6, 80) + worlds(7, 2, NUMBERS, 3):
            for telling in TELLINGS:
                verdict = judge(world.form, telling=telling)
                endless += not verdict
                self.check_longest(world, verdict)
                for filling in [odd_filling(chance, world) for _ in range(3)] + every(world.form)[:6]:
                    self.check_play(world, verdict, filling)
                    for rounds in (1, 2, 3, 4, 9):
                        self.check_endure(world, verdict, filling, rounds)
        self.assertGreater(endless, 8)

    def check_longest(self, world, verdict):
        play = verdict.longest()
        self.assertIs(type(play), tuple)
        self.assertTrue(world.is_play(play, verdict.telling))
        if verdict.rounds is None:
            self.assertGreaterEqual(len(play), 2)
            self.assertEqual(world.pattern(play[0]), world.pattern(play[-1]))
        else:
            self.assertEqual(world.rounds(play), verdict.rounds)

    def test_play_and_endure_of_every_filling_of_the_examples(self):
        for form in (ORDERED, BOTH, TURNS):
            for telling in TELLINGS:
                verdict = judge(form, telling=telling)
                for filling in every(form):
                    play = verdict.play(filling)
                    self.assertTrue(is_play(form, play, telling=telling))
                    height = verdict.height(filling)
                    if height is not None:
                        self.assertEqual(rounds_of(form, play), height)
                    for rounds in (1, 2, 3, 200):
                        play = verdict.endure(filling, rounds)
                        self.assertEqual(play is None, height is not None and height < rounds)
                        self.assertTrue(play is None or (len(play) == rounds and is_play(form, play, telling=telling)))

    def test_great_numbers_and_numbers_between(self):
        verdict = judge(TURNS)
        for a, b in [(1, 2), (HUGE, HUGE + 1), (-HUGE, (1 - 2 * HUGE, 2)), ((1, 3), (1, 2)), (0, (1, HUGE)), ((-1, HUGE), 0)]:
            for one, other in [(a, b), (b, a)]:
                play = verdict.endure(ab(one, other), 200)
                self.assertEqual((len(play), play[0]), (200, ab(one, other)))
                self.assertTrue(is_play(TURNS, play))
                self.assertEqual(rounds_of(TURNS, play), 200)
                self.assertIsNone(verdict.height(ab(one, other)))
                play = verdict.play(ab(one, other))
                self.assertEqual((play[0], len(play)), (ab(one, other), 3))

    def test_a_ring_between_two_numbers(self):
        form = Form.read("\n".join([
            "number a", "number b", "check inside needs a > 0 and b > 0 and a < 1 and b < 1 blames a , b",
            "check up needs a > b and a < 1 after inside blames a", "check down needs b > a and b < 1 after inside blames b",
        ]))
        for telling in TELLINGS:
            verdict = judge(form, telling=telling)
            self.assertIsNone(verdict.rounds)
            play = verdict.endure(ab((1, 3), (1, 2)), 200)
            self.assertTrue(is_play(form, play, telling=telling))
            self.assertEqual(rounds_of(form, play), 200)
            ring = verdict.longest()
            self.assertEqual(Space.of(form).pattern_of(ring[0]), Space.of(form).pattern_of(ring[-1]))

    def test_words_and_blanks(self):
        form = Form.read("\n".join([
            "word a", "word b", "check same needs a = b and a given blames a", "check red needs b = 'red' after same blames b",
        ]))
        verdict = judge(form)
        for a, b, height in [(None, None, 1), ("red", None, 1), (None, "blank", 3), ("zzzzzzzz", "and", 3), (None, "red", 1), ("red", "red", 0)]:
            filling = {"a": a, "b": b}
            self.assertEqual(verdict.height(filling), height)
            play = verdict.play(filling)
            self.assertEqual((play[0], rounds_of(form, play)), (filling, height))
            self.assertTrue(is_play(form, play))
            self.assertIsNone(verdict.endure(filling, height + 1))
            self.assertIsNone(verdict.endure(filling, 200))

    def test_endure_once(self):
        verdict = judge(ORDERED)
        self.assertEqual(verdict.endure(ab(3, 3), 1), (ab(3, 3),))
        self.assertIsNone(verdict.endure(ab(1, 2), 1))
        self.assertEqual(verdict.endure(ab(None, 3), 2), (ab(None, 3), verdict.play(ab(None, 3))[1]))
        self.assertIsNone(verdict.endure(ab(None, 3), 3))

    def test_longest(self):
        self.assertEqual(rounds_of(ORDERED, judge(ORDERED).longest()), 2)
        self.assertEqual(len(judge(fields("guard no needs false")).longest()), 1)
        ring = judge(TURNS).longest()
        self.assertEqual(len(ring), 3)
        self.assertTrue(is_play(TURNS, ring))
        self.assertEqual(ring[0].keys(), {"a", "b"})

    def test_a_longest_play_ends_where_nothing_can_follow(self):
        verdict = judge(TURNS, telling="first")
        self.assertEqual(verdict.play(ab(None, None)), (ab(None, None),))
        self.assertEqual(dead_end(TURNS, telling="first"), ab(None, None))
        self.assertEqual(judge(ORDERED).play(ab(1, 2)), (ab(1, 2),))


class RightAsHeights(unittest.TestCase):
    """Point 27."""

    def test_the_right_tuple_and_each_entry_changed(self):
        for form in (ORDERED, BOTH, TURNS, MIXED):
            for telling in TELLINGS:
                heights = judge(form, telling=telling).heights
                self.assertIs(is_heights(form, heights, telling=telling), True)
                for at, entry in enumerate(heights):
                    wrongs = [None, 0, 1, 2, 3, -1, 7, True, False, "1", (1,), 10 ** 299, [], {}]
                    for wrong in [one for one in wrongs if type(one) != type(entry) or one != entry]:
                        self.assertIs(is_heights(form, heights[:at] + (wrong,) + heights[at + 1:], telling=telling), False)

    def test_tuples_with_several_changes(self):
        chance = random.Random(8)
        for world in worlds(8, 60):
            for telling in TELLINGS:
                heights = judge(world.form, telling=telling).heights
                for _ in range(10):
                    other = tuple(entry if chance.random() < 0.7 else chance.choice([None, 0, 1, 2, 3]) for entry in heights)
                    self.assertIs(is_heights(world.form, other, telling=telling), other == heights)
                moved = tuple(None if entry is None else entry + 1 for entry in heights)
                self.assertIs(is_heights(world.form, moved, telling=telling), moved == heights)
                blank = tuple(None if entry else entry for entry in heights)
                self.assertIs(is_heights(world.form, blank, telling=telling), blank == heights)

    def test_only_that_telling(self):
        self.assertFalse(is_heights(BOTH, judge(BOTH).heights, telling="first"))
        self.assertFalse(is_heights(BOTH, judge(BOTH, telling="first").heights))
        self.assertTrue(is_heights(telling="first", thing=(2, 2, 2, 1, 0, 1), form=BOTH))

    def test_of_another_length_or_kind(self):
        heights = (2, 2, 2, 1, 0, 1)
        for wrong in [list(heights), heights + (0,), heights + (1,), heights[:-1], heights[1:], (), [], None, dict(enumerate(heights))]:
            self.assertIs(is_heights(ORDERED, wrong), False)
        for wrong in STRANGE:
            self.assertIs(is_heights(ORDERED, wrong), False)
        self.assertTrue(is_heights(fields("guard no needs false"), (0,) * 6))
        self.assertFalse(is_heights(fields("guard no needs false"), (False,) * 6))
        self.assertFalse(is_heights(fields("check no needs false"), (True,) * 6))

    def test_wrong_inputs(self):
        for wrong in WRONG_TELLINGS:
            self.assertEqual(error_of(BadTelling, is_heights, wide_form(80), None, telling=wrong), wrong)
        for thing in (None, (), [1], (1,) * 162):
            self.assertEqual(error_of(TooMany, is_heights, wide_form(80), thing), "patterns")
        self.assertTrue(is_heights(wide_form(79), judge(wide_form(79)).heights))


class WrongInputs(unittest.TestCase):

    def test_tellings_before_the_space(self):
        for wrong in WRONG_TELLINGS:
            self.assertEqual(error_of(BadTelling, judge, wide_form(80), telling=wrong), wrong)

    def test_fillings(self):
        verdict = judge(ORDERED)
        calls = [verdict.height, verdict.play, lambda filling: verdict.endure(filling, 1), lambda filling: verdict.endure(filling, 200)]
        for wrong, held in WRONG_FILLINGS:
            for call in calls:
                self.assertEqual(error_of(BadFilling, call, wrong), held)

    def test_a_verdict_answers_as_before_after_a_refused_call(self):
        for form in (ORDERED, TURNS):
            verdict = judge(form)
            before = (verdict.heights, verdict.longest(), [verdict.play(one) for one in every(form)])
            for wrong, _ in WRONG_FILLINGS:
                error_of(BadFilling, verdict.play, wrong)
                error_of(BadFilling, verdict.endure, wrong, 3)
            self.assertEqual((verdict.heights, verdict.longest(), [verdict.play(one) for one in every(form)]), before)

    def test_what_is_passed_and_returned_is_not_shared(self):
        for verdict in (judge(ORDERED), judge(TURNS)):
            filling = {"b": 3, "a": 4}
            for call in (verdict.play, lambda one: verdict.endure(one, 1), lambda one: verdict.longest()):
                play = call(filling)
                again = call(filling)
                for one in play:
                    one["a"] = "changed"
                    one["c"] = 1
                self.assertEqual(filling, {"b": 3, "a": 4})
                self.assertEqual(call(filling), again)
            self.assertEqual(list(verdict.play(filling)[0]), ["a", "b"])
            self.assertEqual(len({id(one) for one in verdict.play(filling)}), len(verdict.play(filling)))

    def test_by_name_in_any_order(self):
        verdict = judge(telling="first", form=TURNS)
        self.assertEqual(verdict.telling, "first")
        self.assertEqual(len(verdict.endure(rounds=5, filling=ab(1, 2))), 5)
        self.assertEqual(verdict.height(filling=ab(None, None)), 1)
        self.assertEqual(verdict.play(filling=ab(None, None)), (ab(None, None),))

    def test_verdicts_are_equal_to_nothing_else(self):
        self.assertNotEqual(judge(ORDERED), judge(ORDERED).heights)
        self.assertFalse(judge(ORDERED) == ORDERED)


if __name__ == "__main__":
    unittest.main()
