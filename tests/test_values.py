"""mendrounds/values.py: points 4 and 5 for numbers and words, point 6 for numerals."""
import random
import unittest
from fractions import Fraction

from mendrounds.errors import BadNumber
from mendrounds.values import ascending, between, compare, is_number, is_word, number, place, read_number, written
from support import STRANGE
from oracle import fraction, value_of

HUGE = 10 ** 250
LONG = 10 ** 40 + 7


def some_numbers(many=60, seed=1):
    chance = random.Random(seed)
    found = [0, 1, -1, (1, 2), (-1, 2), (7, 2), (-7, 3), HUGE, -HUGE, (HUGE + 1, HUGE), (-HUGE - 1, HUGE), (1, HUGE)]
    found += [LONG, (LONG, 10 ** 39 * 2), (-LONG, 10 ** 39 * 2)]
    for _ in range(many):
        found.append(value_of(Fraction(chance.randint(-60, 60), chance.randint(1, 24))))
    return found


class Number(unittest.TestCase):

    def test_examples(self):
        cases = [
            ((3,), 3), ((-3,), -3), ((0,), 0), ((7, 2), (7, 2)), ((6, 2), 3), ((3, 1), 3), ((-1, 3), (-1, 3)),
            ((1, -3), (-1, 3)), ((-1, -3), (1, 3)), ((4, -6), (-2, 3)), ((-4, -6), (2, 3)), ((6, -3), -2),
            ((-6, -3), 2), ((0, 5), 0), ((0, -5), 0), ((3, -1), -3), ((12, 18), (2, 3)), ((5, 5), 1), ((5, -5), -1),
            ((HUGE * 6, HUGE * 4), (3, 2)), ((LONG * 3, -LONG * 9), (-1, 3)), ((HUGE, 1), HUGE), ((1, HUGE), (1, HUGE)),
            ((HUGE + 1, HUGE), (HUGE + 1, HUGE)), ((-HUGE, 2), -HUGE // 2),
        ]
        for given, wanted in cases:
            with self.subTest(given=given):
                self.assertEqual(number(*given), wanted)
                self.assertIs(type(number(*given)), type(wanted))

    def test_like_fractions(self):
        for top in range(-30, 31):
            for bottom in range(-12, 13):
                if bottom:
                    self.assertEqual(number(top, bottom), value_of(Fraction(top, bottom)))
                    self.assertTrue(is_number(number(top, bottom)))

    def test_nothing_below_the_line(self):
        for top in (0, 1, -5, HUGE):
            with self.assertRaises(BadNumber) as caught:
                number(top, 0)
            self.assertEqual(caught.exception.thing, 0)

    def test_by_name(self):
        self.assertEqual(number(top=4, bottom=6), (2, 3))
        self.assertEqual(number(bottom=-2, top=4), -2)
        self.assertEqual(number(top=4), 4)


class Kinds(unittest.TestCase):

    def test_numbers(self):
        for thing in some_numbers():
            with self.subTest(thing=thing):
                self.assertIs(is_number(thing), True)

    def test_no_numbers(self):
        wrong = [
            (6, 2), (3, 1), (1, -2), (True, 2), (False, 2), (1, True), (0, 2), (0, 1), (1, 0), (0, 0), (-4, 6), (2, 2),
            (1, -1), (3, 0), (HUGE, HUGE), (HUGE, 2), (HUGE * 3, HUGE * 5), (), (1,), (1, 2, 3), [1, 2], "3", "1/2",
            (1, "2"), ("1", 2), (None, 2), (1, None), ((1, 2), 3), (1, (1, 2)), ([], 2), True, False, None, {}, [], 1.5,
            (1.0, 2), (1, 2.0), {"a": 1},
        ]
        for thing in wrong + [thing for thing in STRANGE if type(thing) is not int and thing != (1, 2)]:
            with self.subTest(thing=thing):
                self.assertIs(is_number(thing), False)

    def test_words(self):
        for thing in ["a", "z", "ab", "abcdefgh", "zzzzzzzz", "and", "self", "blank", "number", "word", "exit"]:
            with self.subTest(thing=thing):
                self.assertIs(is_word(thing), True)

    def test_no_words(self):
        wrong = [
            "", "abcdefghi", "A", "aB", "a1", "1", "a b", " a", "a ", "a-b", "a_b", "'a'", "a\n", "`", "{", "a" * 1000,
            None, True, 1, (), ("a",), ["a"], {"a": "a"}, b"a",
        ]
        for thing in wrong:
            with self.subTest(thing=thing):
                self.assertIs(is_word(thing), False)

    def test_by_name(self):
        self.assertTrue(is_number(thing=1))
        self.assertTrue(is_word(thing="a"))


class Order(unittest.TestCase):

    def test_compare(self):
        values = some_numbers()
        for one in values:
            for other in values:
                wanted = (fraction(one) > fraction(other)) - (fraction(one) < fraction(other))
                self.assertEqual(compare(one, other), wanted, (one, other))
                self.assertIs(type(compare(one, other)), int)

    def test_compare_very_near(self):
        low, high = number(HUGE, HUGE + 1), number(HUGE + 1, HUGE + 2)
        self.assertEqual((compare(low, high), compare(high, low), compare(low, low)), (-1, 1, 0))
        self.assertEqual((compare(low, 1), compare(1, low)), (-1, 1))
        self.assertEqual(compare(one=(1, 2), other=(1, 3)), 1)

    def test_between(self):
        values = some_numbers()
        for low in values:
            for high in values:
                if fraction(low) < fraction(high):
                    found = between(low, high)
                    self.assertTrue(is_number(found), (low, high))
                    self.assertTrue(fraction(low) < fraction(found) < fraction(high), (low, high))

    def test_between_without_bounds(self):
        self.assertTrue(is_number(between(None, None)))
        for bound in some_numbers():
            above, below = between(bound, None), between(None, bound)
            self.assertTrue(is_number(above) and is_number(below), bound)
            self.assertTrue(fraction(below) < fraction(bound) < fraction(above), bound)

    def test_between_very_near(self):
        ends = [(number(HUGE, HUGE + 1), number(HUGE + 1, HUGE + 2)), (number(1, HUGE + 1), number(1, HUGE))]
        ends += [(number(-HUGE - 1, HUGE + 2), number(-HUGE, HUGE + 1)), (HUGE, number(HUGE * HUGE + 1, HUGE))]
        ends += [(number(HUGE * 7 // 3, HUGE), (7, 3)), ((7, 3), number(HUGE * 7 // 3 + 1, HUGE))]
        for low, high in ends:
            with self.subTest(low=low, high=high):
                found = between(low, high)
                self.assertTrue(is_number(found))
                self.assertTrue(fraction(low) < fraction(found) < fraction(high))

    def test_between_again_and_again(self):
        chance = random.Random(5)
        for start in ((0, 1), (-1, 0), (number(HUGE, HUGE + 1), 1)):
            low, high = start
            for _ in range(400):
                found = between(low, high)
                self.assertTrue(fraction(low) < fraction(found) < fraction(high))
                low, high = (found, high) if chance.random() < 0.5 else (low, found)
        self.assertTrue(between(low=1, high=(3, 2)))

    def test_between_keeps_digits_few(self):
        low, high = 0, 1
        for turn in range(300):
            found = between(low, high)
            low, high = (found, high) if turn % 2 else (low, found)
        self.assertLess(len(written(low)), 300)

    def test_place_and_ascending(self):
        values = some_numbers()
        ordered = ascending(values + values[::-1])
        self.assertEqual([fraction(one) for one in ordered], sorted({fraction(one) for one in values}))
        for value in values:
            self.assertEqual(ordered[place(ordered, value)], value)
        self.assertEqual(place(ordered, HUGE * 2), len(ordered))
        self.assertEqual(place((), 3), 0)
        self.assertEqual(ascending([]), ())


class Written(unittest.TestCase):

    def test_written(self):
        cases = [
            (3, "3"), (0, "0"), (-2, "-2"), ((7, 2), "7/2"), ((-7, 2), "-7/2"), ((1, 10), "1/10"), (100, "100"),
            (HUGE, "1" + "0" * 250), ((-1, HUGE), "-1/1" + "0" * 250),
        ]
        for value, text in cases:
            with self.subTest(text=text):
                self.assertEqual(written(value), text)
                self.assertEqual(read_number(text), value)

    def test_there_and_back(self):
        for value in some_numbers():
            back = read_number(written(value))
            self.assertEqual(back, value)
            self.assertIs(type(back), type(value))
        self.assertEqual(read_number(text=written(value=(-3, 4))), (-3, 4))

    def test_longer_than_what_is_passed(self):
        value = between(number(HUGE ** 4, HUGE ** 4 + 1), 1)
        self.assertEqual(read_number(written(value)), value)

    def test_no_written_form(self):
        wrong = [
            "", "-", "/", "-/", "3/", "/3", "-/3", "03", "00", "-0", "-03", "+3", "--3", "- 3", " 3", "3 ", "3\n", "\n3",
            "6/2", "3/1", "0/2", "0/1", "1/0", "0/0", "-0/2", "-6/4", "1/-2", "1/02", "01/2", "1/2/3", "7//2", "7 / 2",
            "1_0", "1,000", "1.5", "1e3", "0x1", "a", "3a", "a3", "'3'", "7/2a", "-7/-2", "1/+2", "(7, 2)", "\\3",
            "1" + "0" * 250 + "/2", "0" * 900, "9" * 450 + "/" + "9" * 450, "True", "None",
        ]
        for text in wrong:
            with self.subTest(text=text):
                with self.assertRaises(BadNumber) as caught:
                    read_number(text)
                self.assertIs(caught.exception.thing, text)

    def test_no_text(self):
        for thing in STRANGE:
            if not isinstance(thing, str):
                with self.subTest(thing=thing):
                    with self.assertRaises(BadNumber) as caught:
                        read_number(thing)
                    self.assertIs(caught.exception.thing, thing)


if __name__ == "__main__":
    unittest.main()
