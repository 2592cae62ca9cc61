"""mendrounds/comparing.py: point 30, two forms."""
import random
import unittest

from mendrounds.comparing import parted, slower
from mendrounds.errors import BadTelling, TooMany, Unlike
from mendrounds.forms import Form
from mendrounds.rounds import judge
from mendrounds.spaces import Space
from samples import BOTH, ORDERED, TELLINGS, TURNS, WRONG_TELLINGS, ab, fields, wide_form
from support import error_of
from walks import heights_of, odd_filling, random_world, worlds

SILENT = fields("guard no needs false")
# Other fields, another order, another kind, another name.
UNLIKE = [
    Form.read(text + "\ncheck no needs true")
    for text in ("number a", "number b\nnumber a", "number a\nword b", "number a\nnumber c", "number a\nnumber b\nnumber c")
]


def weight(height):
    return 1000 if height is None else height


class Parted(unittest.TestCase):

    def test_forms_that_are_alike(self):
        self.assertIsNone(parted(ORDERED, BOTH))
        self.assertIsNone(parted(BOTH, ORDERED))
        self.assertIsNone(parted(ORDERED, ORDERED))
        self.assertIsNone(parted(fields("check one needs a > 0 and b > 0"), fields("check one needs a > 0", "check two needs b > 0")))

    def test_a_filling_of_the_first_pattern(self):
        self.assertEqual(parted(ORDERED, SILENT), ab(None, None))
        self.assertEqual(parted(SILENT, ORDERED), ab(None, None))
        found = parted(ORDERED, fields("check there needs a given and b given"))
        self.assertEqual(Space.of(ORDERED).pattern_of(found), ((0, 0), (0, 0)))

    def test_other_constants(self):
        one, other = fields("check low needs a > 0"), fields("check low needs a > 1/2")
        found = parted(one, other)
        self.assertNotEqual(one(found).accepted, other(found).accepted)
        self.assertEqual(Space.of(one, other).pattern_of(found), ((2, 0), ()))
        self.assertEqual(parted(other, one), found)
        words = [Form.read(f"word w\ncheck in{name} needs w != '{name}'") for name in ("red", "blue")]
        self.assertEqual(parted(*words), {"w": "blue"})

    def test_wrong_inputs(self):
        for other in UNLIKE:
            self.assertIsNone(error_of(Unlike, parted, ORDERED, other))
            self.assertIsNone(error_of(Unlike, parted, other, ORDERED))
            self.assertIsNone(error_of(Unlike, parted, wide_form(80), other))
        low, high = self.halves(40, 80)
        self.assertEqual(error_of(TooMany, parted, low, high), "patterns")
        self.assertEqual(error_of(TooMany, slower, low, high), "patterns")
        self.assertEqual(error_of(TooMany, parted, wide_form(80), wide_form(80)), "patterns")
        low, high = self.halves(40, 79)
        self.assertEqual(parted(low, high), {"n": 0})
        self.assertIsNone(parted(other=BOTH, one=ORDERED))

    def halves(self, middle, end):
        """Two forms that have so many constants together, none of them both."""
        found = []
        for numbers in (range(middle), range(middle, end)):
            found.append(Form.read(f"number n\ncheck some needs n in ( {' , '.join([str(one) for one in numbers])} ) blames n"))
        return found

    def test_random_forms(self):
        chance = random.Random(51)
        answers = []
        for world in worlds(51, 80):
            other = random_world(chance, world.plan[0])
            both = Space.of(world.form, other.form)
            wanted = [key for key in both.each() if (world.told(both.fill(key)) == []) != (other.told(both.fill(key)) == [])][:1]
            found = parted(world.form, other.form)
            self.assertEqual([] if found is None else [both.pattern_of(found)], wanted)
            answers.append(found is None)
            if found is None:
                for _ in range(5):
                    filling = odd_filling(chance, world)
                    self.assertEqual(world.told(filling) == [], other.told(filling) == [])
        self.assertGreater(answers.count(False), 30)
        self.assertGreater(answers.count(True), 3)

    def test_what_is_returned_is_new(self):
        found = parted(ORDERED, SILENT)
        found.clear()
        self.assertEqual(parted(ORDERED, SILENT), ab(None, None))


class Slower(unittest.TestCase):

    def test_both_tellings(self):
        self.assertEqual(slower(ORDERED, BOTH), ab(None, None))
        self.assertIsNone(slower(BOTH, ORDERED))
        self.assertIsNone(slower(ORDERED, BOTH, telling="first"))
        self.assertIsNone(slower(BOTH, ORDERED, telling="first"))
        self.assertEqual(list(slower(ORDERED, SILENT)), ["a", "b"])
        self.assertIsNone(slower(SILENT, ORDERED))

    def test_endless_is_more_than_each_integer(self):
        found = slower(TURNS, ORDERED)
        self.assertEqual(Space.of(TURNS).pattern_of(found), ((0, 0), (0, 1)))
        self.assertEqual(slower(ORDERED, TURNS), ab(None, None))
        self.assertIsNone(slower(TURNS, TURNS))
        always = fields(*[f"check over{letter} needs a > {at} blames a" for at, letter in enumerate("abcde")])
        self.assertEqual(judge(always, telling="first").rounds, 5)
        found = slower(TURNS, always, telling="first")
        self.assertIsNone(judge(TURNS, telling="first").height(found))
        found = slower(always, TURNS, telling="first")
        self.assertGreater(judge(always, telling="first").height(found), judge(TURNS, telling="first").height(found))

    def test_random_forms(self):
        chance = random.Random(52)
        answers = []
        for world in worlds(52, 50):
            other = random_world(chance, world.plan[0])
            both = Space.of(world.form, other.form)
            for telling in TELLINGS:
                heights = [dict(zip(one.every_filling(), heights_of(one.ways(telling)))) for one in (world, other)]
                rows = [(key, both.fill(key)) for key in both.each()]
                wanted = [
                    key for key, one in rows if weight(heights[0][world.pattern(one)]) > weight(heights[1][other.pattern(one)])
                ][:1]
                found = slower(world.form, other.form, telling=telling)
                self.assertEqual([] if found is None else [both.pattern_of(found)], wanted)
                answers.append(found is None)
        self.assertGreater(answers.count(False), 20)
        self.assertGreater(answers.count(True), 10)

    def test_wrong_inputs(self):
        for wrong in WRONG_TELLINGS:
            self.assertEqual(error_of(BadTelling, slower, ORDERED, UNLIKE[0], telling=wrong), wrong)
        for other in UNLIKE:
            self.assertIsNone(error_of(Unlike, slower, ORDERED, other))
        for one, other in [(wide_form(80), wide_form(3)), (wide_form(3), wide_form(80))]:
            self.assertEqual(error_of(TooMany, slower, one, other), "patterns")
        self.assertIsNone(error_of(Unlike, slower, wide_form(80), ORDERED))
        self.assertEqual(slower(wide_form(79), Form.read("number n\ncheck no needs true")), {"n": None})
        self.assertEqual(slower(telling="all", other=BOTH, one=ORDERED), ab(None, None))


if __name__ == "__main__":
    unittest.main()
