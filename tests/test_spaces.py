"""mendrounds/spaces.py: points 10 to 13."""
import inspect
import random
import unittest
from fractions import Fraction
from itertools import combinations, product

from mendrounds.errors import BadField, BadFilling, BadPattern, NoFilling, TooMany, Unlike
from mendrounds.layouts import Layout
from mendrounds.spaces import Space
from oracle import candidates, every_pattern, fraction, pattern, value_of
from support import STRANGE, error_of

HUGE = 10 ** 250
WORDS = sorted({"w" + first + last for first in "abcdefghijklmnop" for last in "abcdefghijklm"})
# Kinds of the fields, number constants, word constants: spaces of one to five fields, none too large.
SPACES = [
    ("n", [], []), ("n", [0], []), ("n", [(1, 2), -3, 10], ["unused"]), ("w", [], []), ("w", [7], ["red", "blue"]),
    ("nn", [], []), ("nn", [0, 10], []), ("nw", [(7, 2)], ["a"]), ("wn", [0, 1], ["b", "a"]), ("ww", [], ["red"]),
    ("nnn", [], []), ("nnn", [0], []), ("nwn", [(-1, 3)], []), ("wnw", [0], ["a"]), ("www", [], ["a", "b"]),
    ("nnnn", [], []), ("nnww", [], []), ("wwww", [], ["a"]), ("nnnw", [], []), ("nwww", [5], []),
    ("nwwww", [], []), ("wnwwn", [], []), ("nwnwn", [], []), ("wwwwn", [], []),
]
# These are larger, and made once.
EDGES = [
    ("n", list(range(79)), []), ("w", [], WORDS[:158]), ("nn", [0, 1, 2, 3, (9, 2)], []), ("nw", [0, 1, 2, 3], list("abcd")),
]


def kinds_of(letters):
    return ["number" if letter == "n" else "word" for letter in letters]


def layout_of(letters):
    return Layout([("field" + "abcde"[at], kind) for at, kind in enumerate(kinds_of(letters))])


def space_of(letters, numbers, words):
    return Space(layout_of(letters), numbers, words)


def filling_of(space, values):
    return dict(zip(space.layout.names, values))


class WideSpace(Space):
    """A space for an example that is larger than a Space may be."""

    MOST = 400


class Thing:
    """Stands where a condition or a form will stand."""

    def __init__(self, layout, numbers, words):
        self.layout = layout
        self.numbers = numbers
        self.words = words


class MakingASpace(unittest.TestCase):

    def test_constants_ascending_each_once(self):
        layout = layout_of("nw")
        cases = [
            ([], ()), ([3], (3,)), ([3, 1, 2], (1, 2, 3)), ([1, (1, 2), 0, 1, (1, 2)], (0, (1, 2), 1)),
            ([(-1, 2), -1, (-1, 3), (-1, 2), 0], (-1, (-1, 2), (-1, 3), 0)), ([10, 9, 10, 9], (9, 10)),
            ([(HUGE + 1, HUGE), 1, (HUGE - 1, HUGE), HUGE], ((HUGE - 1, HUGE), 1, (HUGE + 1, HUGE), HUGE)),
        ]
        for numbers, wanted in cases:
            space = Space(layout, numbers, [])
            self.assertEqual(space.numbers, wanted)
            self.assertIs(type(space.numbers), tuple)
        for words, wanted in [([], ()), (["b", "a", "b"], ("a", "b")), (["ab", "b", "a", "and"], ("a", "ab", "and", "b"))]:
            space = Space(layout, [], words)
            self.assertEqual(space.words, wanted)
            self.assertIs(type(space.words), tuple)
        self.assertEqual(Space(layout, [], []).layout, layout)

    def test_any_order_and_several_times(self):
        chance = random.Random(3)
        numbers = [value_of(Fraction(chance.randint(-9, 9), chance.randint(1, 5))) for _ in range(30)]
        wanted = tuple([value_of(one) for one in sorted({fraction(one) for one in numbers})])
        for _ in range(10):
            chance.shuffle(numbers)
            space = space_of("n", numbers, [])
            self.assertEqual(space.numbers, wanted)
            self.assertEqual(len(space), 2 * len(wanted) + 2)

    def test_constants_of_a_kind_that_no_field_has(self):
        space = space_of("ww", [2, 1], ["b"])
        self.assertEqual((space.numbers, space.words, len(space)), ((1, 2), ("b",), 10))
        self.assertEqual(len(space_of("ww", list(range(500)), ["b"])), 10)
        self.assertEqual(len(space_of("nn", [0], WORDS)), len(space_of("nn", [0], [])))

    def test_arguments_are_copied_and_not_changed(self):
        numbers, words = [2, 1, 2], ["b", "a"]
        space = Space(layout=layout_of("nw"), numbers=numbers, words=words)
        self.assertEqual((numbers, words), ([2, 1, 2], ["b", "a"]))
        many = len(space)
        numbers.append(7)
        words.clear()
        self.assertEqual((space.numbers, space.words, len(space), len(list(space.each()))), ((1, 2), ("a", "b"), many, many))

    def test_the_bound(self):
        self.assertEqual(Space.MOST, 160)
        at_most = [("n", 79, 0, 160), ("w", 0, 158, 160), ("nn", 5, 0, 156), ("nnnn", 0, 0, 150), ("wwww", 0, 1, 151)]
        at_most += [("nwwww", 0, 0, 104), ("nnnww", 0, 0, 130), ("nnwww", 0, 0, 90), ("nw", 3, 18, 160)]
        for letters, numbers, words, wanted in at_most:
            with self.subTest(letters=letters):
                space = space_of(letters, list(range(numbers)), WORDS[:words])
                self.assertEqual((len(space), len(list(space.each()))), (wanted, wanted))

    def test_beyond_the_bound(self):
        beyond = [("n", 80, 0), ("w", 0, 159), ("nn", 6, 0), ("nnnn", 1, 0), ("wwww", 0, 2), ("nnnnn", 0, 0), ("wwwww", 0, 0)]
        beyond += [("nnnnw", 0, 0), ("nw", 3, 19), ("nw", 4, 18), ("nnn", 2, 0), ("www", 0, 4)]
        for letters, numbers, words in beyond:
            with self.subTest(letters=letters):
                what = error_of(TooMany, space_of, letters, list(range(numbers)), WORDS[:words])
                self.assertEqual(what, "patterns")

    def test_the_bound_does_not_need_the_patterns(self):
        for letters in ("nnnnn", "wwwww", "nwnwn", "n", "w"):
            many = [value_of(Fraction(k, 7)) for k in range(20000)]
            words = ["w" + "".join(letters) for letters in product("abcdefghij", repeat=4)]
            self.assertEqual(error_of(TooMany, space_of, letters, many, words), "patterns")

    def test_repeated_constants_count_once(self):
        self.assertEqual(len(space_of("n", list(range(79)) * 3, [])), 160)
        self.assertEqual(len(space_of("w", [], WORDS[:158] * 3)), 160)

    def test_space_is_equal_to_nothing_else(self):
        for thing in STRANGE:
            self.assertFalse(space_of("n", [], []) == thing)


class SpaceOf(unittest.TestCase):

    def test_all_the_constants(self):
        layout = layout_of("nw")
        one = Thing(layout, (1, 3), ("b",))
        other = Thing(layout_of("nw"), ((1, 2), 3), ("a", "b"))
        space = Space.of(one, other)
        self.assertIsInstance(space, Space)
        self.assertEqual((space.layout, space.numbers, space.words), (layout, ((1, 2), 1, 3), ("a", "b")))
        self.assertEqual(Space.of(one).numbers, (1, 3))
        self.assertEqual(Space.of(one).words, ("b",))
        self.assertEqual(Space.of(other, one, one, other).numbers, ((1, 2), 1, 3))
        self.assertEqual(Space.of(Thing(layout, (), ())).numbers, ())

    def test_unlike(self):
        one = Thing(layout_of("nw"), (), ())
        for letters in ("n", "wn", "nww", "nn"):
            other = Thing(layout_of(letters), (), ())
            for things in ((one, other), (other, one), (one, one, other), (other, other, one)):
                self.assertIsNone(error_of(Unlike, Space.of, *things))

    def test_unlike_comes_before_too_many(self):
        big = Thing(layout_of("n"), tuple(range(100)), ())
        self.assertIsNone(error_of(Unlike, Space.of, big, Thing(layout_of("w"), (), ())))
        self.assertEqual(error_of(TooMany, Space.of, big), "patterns")

    def test_too_many_together(self):
        layout = layout_of("n")
        one, other = Thing(layout, tuple(range(50)), ()), Thing(layout, tuple(range(40, 80)), ())
        self.assertEqual((len(Space.of(one)), len(Space.of(other))), (102, 82))
        self.assertEqual(error_of(TooMany, Space.of, one, other), "patterns")


class Patterns(unittest.TestCase):

    def test_the_example_of_the_document(self):
        # Its space has 342 patterns, which a Space refuses; so a class with a greater bound stands in.
        layout = Layout([("a", "number"), ("b", "number"), ("c", "number")])
        self.assertEqual(len(every_pattern(["number"] * 3, [0, 10], [])), 342)
        self.assertEqual(error_of(TooMany, Space, layout, [0, 10], []), "patterns")
        space = WideSpace(layout, [0, 10], [])
        self.assertEqual(space.pattern_of({"a": 5, "b": 10, "c": (9, 2)}), ((2, 1), (3, 0), (2, 0)))
        self.assertEqual(len(space), 342)
        # The same with what a Space allows: fewer constants, or fewer fields.
        space = Space(layout, [10], [])
        self.assertEqual(space.pattern_of({"a": 5, "b": 10, "c": (9, 2)}), ((0, 1), (1, 0), (0, 0)))
        space = Space(Layout([("a", "number"), ("c", "number")]), [0, 10], [])
        self.assertEqual(space.pattern_of({"a": 5, "c": (9, 2)}), ((2, 1), (2, 0)))
        space = Space(Layout([("a", "number"), ("b", "number")]), [0, 10], [])
        self.assertEqual(space.pattern_of({"a": 5, "b": 10}), ((2, 0), (3, 0)))

    def test_six_patterns_of_two_numbers(self):
        space = Space(Layout([("a", "number"), ("b", "number")]), [], [])
        fillings = [
            {"a": None, "b": None}, {"a": None, "b": 4}, {"a": 4, "b": None}, {"a": 3, "b": 3}, {"a": (1, 3), "b": (1, 2)},
            {"a": 2, "b": -2},
        ]
        wanted = [
            ((), ()), ((), (0, 0)), ((0, 0), ()), ((0, 0), (0, 0)), ((0, 0), (0, 1)), ((0, 1), (0, 0)),
        ]
        self.assertEqual(list(space.each()), wanted)
        self.assertEqual([space.pattern_of(filling) for filling in fillings], wanted)

    def test_words(self):
        space = space_of("www", [], ["blue", "red"])
        cases = [
            ((None, "blue", "red"), ((), (0, 0), (0, 1))), (("green", "red", "green"), ((1, 0), (0, 1), (1, 0))),
            (("z", "a", "m"), ((1, 0), (1, 1), (1, 2))), (("z", "a", "a"), ((1, 0), (1, 1), (1, 1))),
            ((None, "z", "a"), ((), (1, 0), (1, 1))), (("blu", "blues", "blu"), ((1, 0), (1, 1), (1, 0))),
            (("red", "redd", None), ((0, 1), (1, 0), ())),
        ]
        for values, wanted in cases:
            self.assertEqual(space.pattern_of(filling_of(space, values)), wanted)

    def test_numbers_and_words_do_not_mix(self):
        space = space_of("nwnw", [], [])
        self.assertEqual(space.pattern_of(filling_of(space, (3, "b", 1, "a"))), ((0, 1), (1, 0), (0, 0), (1, 1)))

    def test_numbers_very_near_a_constant(self):
        space = space_of("n", [(HUGE, HUGE + 1), 1], [])
        values = [(HUGE - 1, HUGE), (HUGE, HUGE + 1), (HUGE + 1, HUGE + 2), 1, (HUGE + 1, HUGE)]
        self.assertEqual([space.pattern_of({"fielda": value}) for value in values], [((slot, 0),) for slot in range(5)])

    def test_as_the_document_says(self):
        for letters, numbers, words in SPACES:
            space, kinds = space_of(letters, numbers, words), kinds_of(letters)
            choices = list(product(*candidates(kinds, numbers, words)))
            for values in random.Random(7).sample(choices, min(300, len(choices))):
                wanted = pattern(kinds, numbers, words, values)
                self.assertEqual(space.pattern_of(filling_of(space, values)), wanted)

    def test_the_order_of_keys_means_nothing(self):
        space = space_of("nnw", [0], [])
        filling = {"fieldc": "a", "fieldb": 1, "fielda": 2}
        self.assertEqual(space.pattern_of(filling=filling), ((2, 1), (2, 0), (1, 0)))
        self.assertEqual(list(filling), ["fieldc", "fieldb", "fielda"])

    def test_pattern_of_no_filling(self):
        space = space_of("nwn", [0], [])
        full = {"fielda": 1, "fieldb": "a", "fieldc": 2}
        for thing in STRANGE + [dict(full, more=1), {"fielda": 1, "fieldb": "a"}, {"fielda": 1, "fieldb": "a", "c": 2}]:
            with self.subTest(thing=thing):
                self.assertIsNone(error_of(BadFilling, space.pattern_of, thing))
        self.assertEqual(error_of(BadFilling, space.pattern_of, dict(full, fieldc=True, fieldb=1)), "fieldb")
        self.assertEqual(error_of(BadFilling, space.pattern_of, dict(full, fieldc=(4, 2))), "fieldc")


class EachPattern(unittest.TestCase):

    def test_all_patterns_ascending_each_once(self):
        for letters, numbers, words in SPACES:
            with self.subTest(letters=letters, numbers=numbers, words=words):
                space = space_of(letters, numbers, words)
                found = list(space.each())
                self.assertEqual(found, every_pattern(kinds_of(letters), numbers, words))
                self.assertEqual(len(space), len(found))

    def test_where_there_are_many(self):
        for letters, numbers, words in EDGES:
            with self.subTest(letters=letters):
                space = space_of(letters, numbers, words)
                found = list(space.each())
                self.assertEqual(found, every_pattern(kinds_of(letters), numbers, words))
                self.assertEqual(found, sorted(found))
                self.assertEqual(len(space), len(set(found)))

    def test_is_a_generator_that_can_be_asked_again(self):
        space = space_of("nw", [0], ["a"])
        self.assertTrue(inspect.isgenerator(space.each()))
        one, other = space.each(), space.each()
        next(one)
        self.assertEqual(next(other), ((), ()))
        self.assertEqual(list(space.each()), list(space.each()))

    def test_patterns_are_tuples_of_integers(self):
        for found in space_of("nwn", [0], []).each():
            self.assertIs(type(found), tuple)
            for entry in found:
                self.assertIs(type(entry), tuple)
                self.assertTrue(all([type(part) is int for part in entry]))

    def test_each_has_a_filling_and_that_has_it(self):
        for letters, numbers, words in SPACES + EDGES:
            space = space_of(letters, numbers, words)
            for wanted in space.each():
                filling = space.fill(wanted)
                self.assertTrue(space.layout.is_filling(filling))
                self.assertEqual(list(filling), list(space.layout.names))
                self.assertEqual(pattern(kinds_of(letters), numbers, words, list(filling.values())), wanted)
                self.assertEqual(space.pattern_of(filling), wanted)


class InASpace(unittest.TestCase):

    def test_each_pattern(self):
        for letters, numbers, words in SPACES + EDGES:
            space = space_of(letters, numbers, words)
            for found in space.each():
                self.assertIs(found in space, True)

    def test_nothing_else_near_by(self):
        for letters, numbers, words in SPACES:
            if len(letters) > 3:
                continue
            space = space_of(letters, numbers, words)
            patterns = {found: True for found in space.each()}
            entries = [()] + [(first, second) for first in range(-1, 2 * len(numbers) + 3) for second in range(-1, 5)]
            for thing in product(entries, repeat=len(letters)):
                self.assertIs(thing in space, thing in patterns, (letters, thing))

    def test_truth_values_are_no_integers(self):
        space = space_of("nw", [0], ["a"])
        self.assertTrue(((1, 0), (1, 0)) in space)
        for thing in [((True, 0), (1, 0)), ((1, False), (1, 0)), ((1, 0), (True, 0)), ((1, 0), (1, False)), ((1, 0), False)]:
            self.assertIs(thing in space, False)
        self.assertIs(((0, False), ()) in space, False)

    def test_anything(self):
        wrong = [
            [(), ()], ((), []), ([], ()), ((),), ((), (), ()), ((0,), ()), ((0, 0, 0), ()), ([0, 0], ()), ("", ()), ("ab", ()),
            ((), None), (None, None), ((0, None), ()), ((0, "0"), ()), (((0, 0),), ()), ((0.0, 0), ()), ((0, (1, 2)), ()),
            {"a": ()}, ((), {}), ((10 ** 299, 0), ()), ((0, 10 ** 299), ()), ((), (1, 10 ** 299)), ((-10 ** 299, 0), ()),
        ]
        for letters in ("nw", "n", "w"):
            space = space_of(letters, [0], ["a"])
            for thing in STRANGE + wrong + [space, space.layout]:
                if thing not in (((),), ((), ())):
                    with self.subTest(letters=letters, thing=thing):
                        self.assertIs(thing in space, False)

    def test_ranks_without_a_gap(self):
        space = space_of("nnn", [0], [])
        self.assertFalse(((0, 1), (), ()) in space)
        self.assertFalse(((0, 2), (0, 0), ()) in space)
        self.assertFalse(((0, 0), (2, 1), ()) in space)
        self.assertTrue(((0, 0), (2, 1), (2, 0)) in space)
        self.assertFalse(((1, 1), (1, 0), ()) in space)


class Without(unittest.TestCase):

    def test_is_the_pattern_with_these_fields_blank(self):
        for letters, numbers, words in SPACES:
            space = space_of(letters, numbers, words)
            names = space.layout.names
            for found in space.each():
                filling = space.fill(found)
                for many in range(len(names) + 1):
                    for left_out in combinations(names, many):
                        blank = {name: None if name in left_out else filling[name] for name in names}
                        remainder = space.without(found, left_out)
                        self.assertEqual(remainder, space.pattern_of(blank))
                        self.assertTrue(remainder in space)

    def test_examples(self):
        space = space_of("nnw", [0], [])
        self.assertEqual(space.without(((2, 1), (2, 0), (1, 0)), ["fieldb"]), ((2, 0), (), (1, 0)))
        self.assertEqual(space.without(((2, 1), (2, 0), (1, 0)), ("fieldb", "fielda")), ((), (), (1, 0)))
        space = space_of("www", [], ["a"])
        self.assertEqual(space.without(((1, 0), (1, 1), (1, 0)), ["fielda"]), ((), (1, 0), (1, 1)))
        self.assertEqual(space.without(((1, 0), (0, 0), (1, 1)), ["fielda"]), ((), (0, 0), (1, 0)))

    def test_in_two_steps_and_in_one(self):
        for letters, numbers, words in [("nnn", [0], []), ("www", [], ["a", "b"]), ("wnwwn", [], [])]:
            space = space_of(letters, numbers, words)
            names = space.layout.names
            for found in space.each():
                self.assertEqual(space.without(found, []), found)
                for one, other in product(names, repeat=2):
                    at_once = space.without(found, [one, other])
                    self.assertEqual(space.without(space.without(found, [one]), [other]), at_once)
                    self.assertEqual(space.without(found, (other, one, other)), at_once)

    def test_no_pattern(self):
        space = space_of("nn", [], [])
        for thing in STRANGE + [((0, 1), ()), [(0, 0), ()], ((True, 0), ()), ((0, 0),), ((1, 0), ())]:
            if thing != ((), ()):
                with self.subTest(thing=thing):
                    self.assertIs(error_of(BadPattern, space.without, thing, []), thing)
                    self.assertIs(error_of(BadPattern, space.without, thing, ["nofield"]), thing)

    def test_no_field(self):
        space = space_of("nn", [], [])
        for thing in STRANGE + ["Fielda", ("fielda",), ["fielda"]]:
            with self.subTest(thing=thing):
                self.assertIs(error_of(BadField, space.without, ((), ()), ["fielda", thing, "wrong"]), thing)
                self.assertIs(error_of(BadField, space.without, ((), ()), (thing, "fielda")), thing)

    def test_names_are_not_changed(self):
        space = space_of("nn", [], [])
        names = ["fieldb"]
        self.assertEqual(space.without(pattern=((0, 0), (0, 1)), names=names), ((0, 0), ()))
        self.assertEqual(names, ["fieldb"])


class Fill(unittest.TestCase):

    def test_nothing_kept(self):
        space = space_of("nnw", [0], ["a"])
        for found in space.each():
            for filling in (space.fill(found), space.fill(found, kept=None), space.fill(found, kept={})):
                self.assertEqual(space.pattern_of(filling), found)

    def test_kept_values_that_agree(self):
        """Point 13: what agrees on the kept fields can be filled."""
        for letters, numbers, words in [one for one in SPACES if len(one[0]) in (2, 3)]:
            space, kinds = space_of(letters, numbers, words), kinds_of(letters)
            names = space.layout.names
            patterns = list(space.each())
            choices = list(product(*candidates(kinds, numbers, words)))
            for values in random.Random(11).sample(choices, min(25, len(choices))):
                for free in [names[at:at + size] for size in range(len(names) + 1) for at in range(len(names))]:
                    kept = {name: value for name, value in zip(names, values) if name not in free}
                    alone = [kept.get(name) for name in names]
                    wanted = pattern(kinds, numbers, words, alone)
                    for found in patterns:
                        self.check_kept(space, found, kept, space.without(found, free) == wanted)

    def check_kept(self, space, found, kept, is_there):
        before = dict(kept)
        if is_there:
            filling = space.fill(found, kept=kept)
            self.assertEqual(space.pattern_of(filling), found)
            self.assertEqual({name: filling[name] for name in kept}, kept)
        else:
            self.assertEqual(error_of(NoFilling, space.fill, found, kept=kept), found)
        self.assertEqual(kept, before)

    def test_kept_values_one_by_one(self):
        """By going through fillings, without point 13."""
        for letters, numbers, words in [("nn", [0], []), ("nw", [0], ["a"]), ("ww", [], ["a"])]:
            space, kinds = space_of(letters, numbers, words), kinds_of(letters)
            for at, name in enumerate(space.layout.names):
                for value in candidates(kinds, numbers, words)[at]:
                    mixed = numbers + [value] if kinds[at] == "number" and value is not None else numbers
                    spelled = words + [value] if kinds[at] == "word" and value is not None else words
                    choices = candidates(kinds, mixed, spelled)
                    choices[at] = [value]
                    there = {pattern(kinds, numbers, words, values) for values in product(*choices)}
                    for found in space.each():
                        self.check_kept(space, found, {name: value}, found in there)

    def test_all_kept(self):
        space = space_of("nwn", [0], [])
        kept = {"fieldc": (1, 2), "fieldb": "and", "fielda": -7}
        found = space.pattern_of(kept)
        filling = space.fill(found, kept=kept)
        self.assertEqual(filling, kept)
        self.assertEqual(list(filling), ["fielda", "fieldb", "fieldc"])
        self.assertIsNot(filling, kept)
        for other in space.each():
            if other != found:
                self.assertEqual(error_of(NoFilling, space.fill, other, kept=kept), other)

    def test_kept_blank(self):
        space = space_of("nn", [], [])
        self.assertEqual(space.fill(((), (0, 0)), kept={"fielda": None})["fielda"], None)
        self.assertEqual(error_of(NoFilling, space.fill, ((0, 0), ()), kept={"fielda": None}), ((0, 0), ()))
        self.assertEqual(error_of(NoFilling, space.fill, ((), (0, 0)), kept={"fielda": 3}), ((), (0, 0)))

    def test_kept_numbers_very_near(self):
        space = space_of("nnn", [], [])
        kept = {"fielda": (HUGE, HUGE + 1), "fieldc": (HUGE + 1, HUGE + 2)}
        filling = space.fill(((0, 0), (0, 1), (0, 2)), kept=kept)
        self.assertEqual(space.pattern_of(filling), ((0, 0), (0, 1), (0, 2)))
        self.assertEqual(space.fill(((0, 0), (0, 1), (0, 1)), kept=kept)["fieldb"], kept["fieldc"])
        self.assertEqual(error_of(NoFilling, space.fill, ((0, 1), (), (0, 0)), kept=kept), ((0, 1), (), (0, 0)))

    def test_kept_words(self):
        space = space_of("wwww", [], ["a"])
        found = ((1, 0), (1, 1), (0, 0), (1, 2))
        for kept in ({"fieldb": "b"}, {"fielda": "b", "fieldd": "c"}, {"fieldd": "aa"}, {"fieldc": "a", "fieldb": "d"}):
            filling = space.fill(found, kept=kept)
            self.assertEqual(space.pattern_of(filling), found)
            self.assertEqual({name: filling[name] for name in kept}, kept)
        for kept in ({"fieldb": "a"}, {"fielda": "b", "fieldb": "b"}, {"fieldc": "b"}):
            self.assertEqual(error_of(NoFilling, space.fill, found, kept=kept), found)

    def test_no_pattern(self):
        space = space_of("nn", [], [])
        for thing in STRANGE + [((0, 1), ()), [(0, 0), ()], ((True, 0), ()), ((1, 0), ())]:
            if thing != ((), ()):
                with self.subTest(thing=thing):
                    self.assertIs(error_of(BadPattern, space.fill, thing), thing)
                    self.assertIs(error_of(BadPattern, space.fill, thing, kept={"wrong": True}), thing)
                    self.assertIs(error_of(BadPattern, space.fill, thing, kept=7), thing)

    def test_kept_that_is_no_dict_of_fields(self):
        space = space_of("nn", [], [])
        wrong = [thing for thing in STRANGE if thing is not None and thing != {}]
        for kept in wrong + [["fielda"], {"fielda": 1, "more": 2}, {"Fielda": None}, {"more": True, "fielda": True}]:
            with self.subTest(kept=kept):
                self.assertIsNone(error_of(BadFilling, space.fill, ((0, 0), ()), kept=kept))

    def test_kept_values_of_the_wrong_kind(self):
        space = space_of("nwn", [], [])
        found = ((0, 0), (1, 0), (0, 1))
        for kept, wanted in [
            ({"fielda": True}, "fielda"), ({"fieldb": 1}, "fieldb"), ({"fieldc": (2, 4)}, "fieldc"),
            ({"fieldc": "a", "fieldb": 1}, "fieldb"), ({"fieldc": "a", "fielda": 5}, "fieldc"), ({"fieldb": ""}, "fieldb"),
            ({"fieldc": [], "fieldb": {}, "fielda": ()}, "fielda"),
        ]:
            with self.subTest(kept=kept):
                self.assertEqual(error_of(BadFilling, space.fill, found, kept=kept), wanted)
        # There is none either, but the wrong value comes first.
        self.assertEqual(error_of(BadFilling, space.fill, ((), (), ()), kept={"fielda": 1, "fieldb": 1}), "fieldb")

    def test_kept_by_name_only(self):
        space = space_of("nn", [], [])
        self.assertRaises(TypeError, space.fill, ((), ()), {})
        self.assertEqual(space.fill(pattern=((), ()), kept={}), {"fielda": None, "fieldb": None})

    def test_fillings_are_new(self):
        space = space_of("nn", [0], [])
        kept = {"fielda": 1}
        filling = space.fill(((2, 0), (2, 1)), kept=kept)
        filling["fielda"] = 99
        filling["more"] = 1
        self.assertEqual(kept, {"fielda": 1})
        again = space.fill(((2, 0), (2, 1)), kept=kept)
        self.assertEqual(list(again), ["fielda", "fieldb"])
        self.assertEqual(again["fielda"], 1)

    def test_many_steps_keep_the_digits_few(self):
        """Two fields that overtake each other two hundred times between the same two constants."""
        space = space_of("nn", [0, 1], [])
        filling = space.fill(((2, 0), (2, 1)))
        for turn in range(200):
            name = space.layout.names[turn % 2]
            other = space.layout.names[1 - turn % 2]
            wanted = ((2, 1), (2, 0)) if turn % 2 == 0 else ((2, 0), (2, 1))
            filling = space.fill(wanted, kept={other: filling[other]})
            self.assertEqual(space.pattern_of(filling), wanted)
            self.assertLess(len(str(filling[name])), 300)


if __name__ == "__main__":
    unittest.main()
