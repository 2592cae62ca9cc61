"""mendrounds/batches.py: point 37, batches."""
import itertools
import random
import unittest

from mendrounds.batches import Batch
from mendrounds.careful import advise
from mendrounds.errors import BadBatch, BadTelling, TooMany
from mendrounds.forms import Form
from mendrounds.mending import is_mending
from mendrounds.rounds import judge
from mendrounds.spaces import Space
from samples import BOTH, ORDERED, TELLINGS, TURNS, WRONG_FILLINGS, WRONG_TELLINGS, ab, fields, wide_form
from support import STRANGE, error_of
from walks import depths_of, heights_of, odd_filling, worlds

LET_THROUGH = ab(1, 2)
# Of the height 2 and the depth 1.
AWAY = ab(None, 3)
EQUAL = ab(3, 3)
# With words: a blank field is mended, 'stuck' is a dead end, and 'on' and 'off' take turns for ever, if one likes.
PATHS = Form.read("\n".join([
    "word w", "check some needs w given blames w", "check free needs w != 'stuck' after some",
    "check upper needs w != 'on' after some , free blames w", "check lower needs w != 'off' after some , free blames w",
]))


def w(value):
    return {"w": value}


def every(form):
    space = Space.of(form)
    return [space.fill(pattern) for pattern in space.each()]


class Making(unittest.TestCase):

    def test_what_it_holds(self):
        batch = Batch(BOTH, [AWAY, LET_THROUGH, EQUAL])
        self.assertEqual(batch.form, BOTH)
        self.assertEqual((batch.telling, len(batch), Batch.MOST), ("all", 3, 8))
        self.assertEqual(batch.told, ((0, "there"), (0, "order"), (2, "order")))
        self.assertEqual(batch.rows(), [AWAY, LET_THROUGH, EQUAL])
        self.assertIs(type(batch.told), tuple)
        self.assertIs(type(batch.rows()), list)

    def test_all_told_checks_whatever_the_telling(self):
        batch = Batch(BOTH, (AWAY, EQUAL), telling="first")
        self.assertEqual((batch.telling, batch.told), ("first", ((0, "there"), (0, "order"), (1, "order"))))
        self.assertEqual(Batch(BOTH, [LET_THROUGH]).told, ())

    def test_one_row_and_eight_rows(self):
        for rows in ([EQUAL], [EQUAL] * 8, (EQUAL,) * 8):
            batch = Batch(ORDERED, rows)
            self.assertEqual((len(batch), batch.rows()), (len(rows), list(rows)))
            self.assertEqual(batch.told, tuple((at, "order") for at in range(len(rows))))

    def test_rows_that_are_wrong(self):
        for wrong in [one for one in STRANGE if not isinstance(one, (list, tuple)) or not one] + [(), [], [EQUAL] * 9, (EQUAL,) * 9, [None] * 9, EQUAL]:
            self.assertEqual(error_of(BadBatch, Batch, ORDERED, wrong), -1)
        for wrong in [one for one in STRANGE if isinstance(one, (list, tuple)) and 0 < len(one) <= 8]:
            self.assertEqual(error_of(BadBatch, Batch, ORDERED, wrong), 0)
        for wrong, _ in WRONG_FILLINGS:
            for at in (0, 1, 7):
                rows = [EQUAL] * 8
                rows[at] = wrong
                self.assertEqual(error_of(BadBatch, Batch, ORDERED, rows), at)
                self.assertEqual(error_of(BadBatch, Batch, ORDERED, tuple(rows[:at] + [wrong, wrong])[:8]), at)

    def test_tellings_come_first(self):
        for wrong in WRONG_TELLINGS:
            for rows in (None, [], [EQUAL], [None]):
                self.assertEqual(error_of(BadTelling, Batch, ORDERED, rows, telling=wrong), wrong)
        self.assertEqual(Batch(telling="first", rows=[EQUAL], form=ORDERED).rows(), [EQUAL])

    def test_what_is_passed_and_returned_is_not_shared(self):
        rows = [{"b": 3, "a": 3}, dict(AWAY)]
        batch = Batch(ORDERED, rows)
        rows[0]["a"] = 1
        rows.append(EQUAL)
        self.assertEqual((batch.rows(), len(batch), list(batch.rows()[0])), ([EQUAL, AWAY], 2, ["a", "b"]))
        batch.rows()[0]["a"] = 1
        batch.rows().clear()
        self.assertEqual(batch.rows(), [EQUAL, AWAY])
        before = batch.play()
        play = batch.play()
        play[0][0]["a"] = "changed"
        play[0].clear()
        play[1][0].clear()
        self.assertEqual((batch.rows(), batch.play()), ([EQUAL, AWAY], before))
        same = [LET_THROUGH, AWAY]
        play = Batch(ORDERED, same).play()
        self.assertEqual(len({id(row) for one in play for row in one}), sum(len(one) for one in play))
        self.assertEqual(same, [LET_THROUGH, AWAY])

    def test_no_space_is_needed_but_for_heights(self):
        batch = Batch(wide_form(80), [{"n": None}, {"n": 3}])
        self.assertEqual((len(batch), batch.told), (2, ((0, "some"),)))
        self.assertTrue(batch.is_mending([{"n": 5}, {"n": 3}]))
        for rows in ([{"n": None}], [{"n": 3}]):
            for call in (Batch(wide_form(80), rows).greatest, Batch(wide_form(80), rows).fewest, Batch(wide_form(80), rows).play):
                self.assertEqual(error_of(TooMany, call), "patterns")
        batch = Batch(wide_form(79), [{"n": None}])
        self.assertEqual((batch.greatest(), batch.fewest(), len(batch.play())), (1, 1, 2))


class Mendings(unittest.TestCase):

    def test_each_told_row_is_mended(self):
        batch = Batch(ORDERED, [AWAY, LET_THROUGH, EQUAL])
        right = [ab(3, 3), ab(1, 2), ab(3, 7)]
        self.assertIs(batch.is_mending(right), True)
        self.assertIs(batch.is_mending(tuple(right)), True)
        self.assertIs(batch.is_mending(thing=[{"b": 3, "a": 1}, {"b": 2, "a": 1}, {"b": 4, "a": 3}]), True)

    def test_what_is_no_mending(self):
        batch = Batch(ORDERED, [AWAY, LET_THROUGH, EQUAL])
        right = [ab(3, 3), ab(1, 2), ab(3, 7)]
        for at, wrong in [(0, AWAY), (0, ab(None, 4)), (1, ab(1, 3)), (1, ab(0, 2)), (1, EQUAL), (2, EQUAL), (2, ab(1, 3)), (2, ab(3, None))]:
            self.assertIs(batch.is_mending(right[:at] + [wrong] + right[at + 1:]), False)
        for at in range(3):
            for wrong in STRANGE + [one for one, _ in WRONG_FILLINGS] + [[1, 2], {"a": True, "b": 2}, {"a": 1}]:
                self.assertIs(batch.is_mending(right[:at] + [wrong] + right[at + 1:]), False)
        for wrong in STRANGE + [right[:2], right + [right[2]], right[1:], {0: right[0], 1: right[1], 2: right[2]}, [right], dict(right[0])]:
            self.assertIs(batch.is_mending(wrong), False)
        self.assertIs(batch.is_mending([right[0], {"a": True, "b": 2}, right[2]]), False)

    def test_a_batch_at_which_nothing_is_told_has_none(self):
        for rows in ([LET_THROUGH], [LET_THROUGH, ab(0, 5)]):
            self.assertIs(Batch(ORDERED, rows).is_mending(rows), False)
            self.assertIs(Batch(ORDERED, rows, telling="first").is_mending(tuple(rows)), False)

    def test_the_telling(self):
        self.assertIs(Batch(BOTH, [AWAY]).is_mending([EQUAL]), False)
        self.assertIs(Batch(BOTH, [AWAY], telling="first").is_mending([EQUAL]), True)

    def test_random_ones(self):
        chance = random.Random(81)
        answers = []
        for world in worlds(81, 100):
            telling = chance.choice(TELLINGS)
            rows = [odd_filling(chance, world) for _ in range(chance.randint(1, 3))]
            for _ in range(4):
                other = [chance.choice([row, *world.mendings(row, telling).values(), *list(world.mendings(row, telling).values())]) for row in rows]
                told = [bool(world.told(row)) for row in rows]
                wanted = any(told) and all(
                    world.is_mending(row, one, telling) if is_told else row == one for row, one, is_told in zip(rows, other, told)
                )
                self.assertIs(Batch(world.form, rows, telling=telling).is_mending(other), wanted)
                answers.append(wanted)
        self.assertGreater(answers.count(True), 40)
        self.assertGreater(answers.count(False), 40)


class Heights(unittest.TestCase):

    def check_play(self, batch):
        """That the play of a batch is one of just as many rounds as its height."""
        most = batch.greatest()
        play = batch.play()
        self.assertEqual(play is None, most is None)
        if play is not None:
            self.assertIs(type(play), tuple)
            self.assertTrue(all(type(one) is list for one in play))
            self.assertEqual(play[0], batch.rows())
            batches = [Batch(batch.form, one, telling=batch.telling) for one in play]
            self.assertEqual([one.is_mending(other) for one, other in zip(batches, play[1:])], [True] * (len(play) - 1))
            self.assertEqual(len([one for one in batches if one.told]), most)
            self.assertTrue(all(list(row) == list(batch.form.layout.names) for one in play for row in one))

    def check_batch(self, form, rows, greatest, fewest, telling="all"):
        batch = Batch(form, rows, telling=telling)
        self.assertEqual((batch.greatest(), batch.fewest()), (greatest, fewest))
        self.check_play(batch)

    def test_without_lost_rows(self):
        self.check_batch(ORDERED, [LET_THROUGH], 0, 0)
        self.check_batch(ORDERED, [AWAY], 2, 1)
        self.check_batch(ORDERED, [EQUAL], 1, 1)
        self.check_batch(ORDERED, [EQUAL, AWAY, LET_THROUGH], 2, 1)
        self.check_batch(ORDERED, [LET_THROUGH] * 8, 0, 0)
        self.check_batch(ORDERED, [EQUAL] * 7 + [AWAY], 2, 1)
        self.check_batch(BOTH, [AWAY, EQUAL], 1, 1)
        self.check_batch(BOTH, [AWAY, EQUAL], 2, 1, "first")

    def test_lost_rows(self):
        self.check_batch(TURNS, [ab(None, None)], 1, None)
        self.check_batch(TURNS, [ab(1, 2)], None, None)
        self.check_batch(TURNS, [ab(1, 2), ab(None, None)], 1, None)
        self.check_batch(TURNS, [ab(1, 2), ab(2, 1)], None, None)

    def test_a_row_that_is_not_lost_waits(self):
        """The rows on the ring can be let through; a lost row is not, and ends the play of the batch when it is stuck."""
        self.assertEqual(judge(PATHS).heights, (None, None, None, 1, 0))
        self.assertEqual(advise(PATHS).depths, (1, 1, 1, None, 0))
        self.check_batch(PATHS, [w("on")], None, 1)
        self.check_batch(PATHS, [w("on"), w("new")], None, 1)
        self.check_batch(PATHS, [w("stuck")], 1, None)
        self.check_batch(PATHS, [w("on"), w("stuck")], 1, None)
        self.check_batch(PATHS, [w("new"), w("stuck"), w(None), w("off")], 1, None)
        self.check_batch(PATHS, [w("new"), w("new")], 0, 0)

    def test_lost_rows_of_other_heights(self):
        form = Form.read("\n".join([
            "word w", "word v", "check first needs w given blames w", "check next needs v given after first blames v",
            "check never needs v = 'no' and v = 'yes' after first , next",
        ]))
        rows = [{"w": None, "v": None}, {"w": "a", "v": None}, {"w": "a", "v": "b"}]
        self.assertEqual([judge(form).height(row) for row in rows], [3, 2, 1])
        self.assertEqual([advise(form).depth(row) for row in rows], [None, None, None])
        self.check_batch(form, rows[:1], 3, None)
        self.check_batch(form, rows[:2], 2, None)
        self.check_batch(form, rows[::-1], 1, None)
        self.check_batch(form, rows[1:2] + rows[:1] * 3, 2, None)

    def test_random_batches_worked_out_apart(self):
        chance = random.Random(82)
        found = []
        for world in worlds(82, 120, None, 3):
            fillings = world.every_filling()
            if len(fillings) > 16:
                continue
            for telling in TELLINGS:
                ways = world.ways(telling)
                for _ in range(3):
                    rows = [chance.choice(list(fillings.values())) for _ in range(2)]
                    greatest, fewest = self.slow(world, ways, rows)
                    self.check_batch(world.form, rows, greatest, fewest, telling)
                    found.append((greatest, fewest))
        for part in (None, 0, 1, 2):
            self.assertGreater(len([one for one in found if one[0] == part]), 2, part)
        self.assertGreater(len([one for one in found if one[1] is None and one[0] is not None]), 5)

    def slow(self, world, ways, rows):
        """The height and depth of a batch, going through all batches that can follow it."""
        start = tuple(world.pattern(row) for row in rows)
        nexts = {}
        waiting = [start]
        while waiting:
            one = waiting.pop()
            if one not in nexts:
                told = [ways[key] is not None for key in one]
                choices = [ways[key] if is_told else [key] for key, is_told in zip(one, told)]
                nexts[one] = list(itertools.product(*choices)) if any(told) else None
                waiting.extend(nexts[one] or [])
        at = list(nexts).index(start)
        return heights_of(nexts)[at], depths_of(nexts)[at]

    def test_random_batches_of_many_rows(self):
        chance = random.Random(83)
        for world in worlds(83, 60):
            for telling in TELLINGS:
                rows = [odd_filling(chance, world) for _ in range(chance.choice([1, 3, 8]))]
                heights = [judge(world.form, telling=telling).height(row) for row in rows]
                depths = [advise(world.form, telling=telling).depth(row) for row in rows]
                counted = [height for height, depth in zip(heights, depths) if depth is None]
                weights = [1000 if height is None else height for height in counted or heights]
                most = min(weights) if counted else max(weights)
                self.check_batch(
                    world.form, rows, None if most == 1000 else most, None if counted else max(depths), telling,
                )

    def test_steps_are_mendings_of_rows(self):
        play = Batch(ORDERED, [AWAY, LET_THROUGH, EQUAL]).play()
        for one, other in zip(play, play[1:]):
            for row, after in zip(one, other):
                self.assertTrue(row == after or is_mending(ORDERED, row, after))
        self.assertEqual([one[1] for one in play], [LET_THROUGH] * len(play))


class Asking(unittest.TestCase):

    def test_asked_again(self):
        batch = Batch(BOTH, [AWAY, EQUAL], telling="first")
        before = (batch.told, batch.rows(), batch.greatest(), batch.fewest(), batch.play())
        for wrong in STRANGE:
            batch.is_mending(wrong)
        self.assertEqual((batch.told, batch.rows(), batch.greatest(), batch.fewest(), batch.play()), before)

    def test_every_filling_alone(self):
        for form in (ORDERED, BOTH, TURNS):
            for telling in TELLINGS:
                for filling in every(form):
                    batch = Batch(form, [filling], telling=telling)
                    self.assertEqual(batch.greatest(), judge(form, telling=telling).height(filling))
                    self.assertEqual(batch.fewest(), advise(form, telling=telling).depth(filling))

    def test_fields_of_both_kinds(self):
        form = fields("check some needs a given blames a")
        batch = Batch(form, [ab(None, (1, 2)), ab(0, None)])
        self.assertTrue(batch.is_mending([ab((1, 3), (1, 2)), ab(0, None)]))
        self.assertFalse(batch.is_mending([ab((1, 3), (1, 2)), ab(0, 0)]))


if __name__ == "__main__":
    unittest.main()
