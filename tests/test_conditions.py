"""mendrounds/conditions.py: points 6 to 9, and what point 10 says of conditions."""
import random
import unittest
from itertools import product

from grammar import (
    is_condition, random_tree, tree_fields, tree_holds, tree_tokens, wrong_at,
)
from mendrounds.conditions import Condition
from mendrounds.errors import BadCondition, BadFilling, TooMany, Unlike
from mendrounds.layouts import Layout
from mendrounds.spaces import Space
from oracle import candidates
from support import STRANGE, error_of

FIELDS = [("a", "number"), ("b", "number"), ("c", "word"), ("d", "word")]
LAYOUT = Layout(FIELDS)
KINDS = dict(FIELDS)
CONSTANTS = {"number": ["0", "3", "-2", "7/2", "-1/3"], "word": ["'red'", "'and'", "'a'"]}
VALUES = {"number": [None, -2, (-1, 3), 0, 1, 3, (7, 2)], "word": [None, "red", "and", "a", "blue"]}
HUGE = 10 ** 299
NUMBERS = Layout([("a", "number"), ("b", "number")])
ONE = Layout([("x", "number")])


def condition(text, layout=LAYOUT):
    return Condition(text, layout)


def holds(text, **values):
    return condition(text)(LAYOUT.fill(**values))


def position(text, layout=LAYOUT):
    return error_of(BadCondition, Condition, text, layout)


def random_trees(seed, many, depth=3):
    chance = random.Random(seed)
    return [random_tree(chance, KINDS, CONSTANTS, chance.randint(0, depth)) for _ in range(many)]


def some_fillings(chance, many):
    return [{name: chance.choice(VALUES[kind]) for name, kind in FIELDS} for _ in range(many)]


class Tokens(unittest.TestCase):
    """Point 6, as far as texts that are right go; a text that is wrong shows its tokens by its position."""

    def test_spaces_may_stand_anywhere_and_nowhere(self):
        texts = [
            "a=3and b!=-2or not(c='red'=>d in('a','b'))", "a = 3 and b != -2 or not ( c = 'red' => d in ( 'a' , 'b' ) )",
            "   a =3 and   b!= -2 or not( c='red' =>d in ('a' ,'b'))   ",
        ]
        wanted = "a = 3 and b != -2 or not ( c = 'red' => d in ( 'a' , 'b' ) )"
        for text in texts:
            self.assertEqual(str(condition(text)), wanted)

    def test_letters_as_long_as_possible(self):
        self.assertEqual(position("agiven"), 0)
        self.assertEqual(position("a givenand b given"), 2)
        self.assertEqual(position("nota given"), 0)
        self.assertEqual(position("truefalse"), 0)
        layout = Layout([("notes", "number"), ("inn", "number"), ("n", "number")])
        self.assertEqual(str(condition("notes>inn and not n=notes", layout)), "notes > inn and not n = notes")

    def test_numerals(self):
        for numeral in ("0", "3", "-2", "7/2", "-7/2", "1/2", "10", "100/99", "-1", str(HUGE), f"-1/{HUGE}", "0"):
            self.assertEqual(str(condition(f"a={numeral}and b={numeral}")), f"a = {numeral} and b = {numeral}")

    def test_numerals_that_are_no_written_form(self):
        for numeral in ("00", "03", "-0", "-03", "6/2", "3/1", "0/1", "0/5", "1/0", "-6/4", "3/02", "03/2", "2/4", "0/0", "-0/3"):
            for before, behind in [("a = ", ""), ("a in (", ""), ("a<", " and"), ("a in (1, 2,", ")"), ("", " = a"), ("c=", "")]:
                with self.subTest(text=before + numeral + behind):
                    self.assertEqual(position(before + numeral + behind), len(before))

    def test_numerals_as_long_as_possible(self):
        self.assertEqual(position("a = 1/2/3"), 7)
        self.assertEqual(position("a = 3/"), 5)
        self.assertEqual(position("a = 3/b"), 5)
        self.assertEqual(position("a = 3 /4"), 6)
        self.assertEqual(position("a = 3/ 4"), 5)
        self.assertEqual(position("a = 3/-4"), 5)
        self.assertEqual(position("a = -"), 4)
        self.assertEqual(position("a = - 3"), 4)
        self.assertEqual(position("a = --3"), 4)
        self.assertEqual(position("a = 3-2"), 5)
        self.assertEqual(position("a = 3 -"), 6)
        self.assertEqual(position("a = /2"), 4)
        self.assertEqual(position("a = 12b"), 6)
        self.assertEqual(position("a = 1.5"), 5)
        self.assertEqual(position("a = +3"), 4)

    def test_quoted_words(self):
        self.assertEqual(condition("c='abcdefgh'or c='x'or d='not'").words, ("abcdefgh", "not", "x"))
        for word in ("'abcdefghi'", "''", "'red", "'r d'", "'Red'", "'red1'", "' red'", "'red '", "'", "'re'd'"):
            text = f"c = {word}"
            wanted = 8 if word == "'re'd'" else 4
            self.assertEqual(position(text), wanted, text)
        self.assertEqual(position("c = 'red''"), 9)
        self.assertEqual(position("c = 'red'd"), 9)

    def test_the_longest_sign(self):
        for text, wanted in [
            ("a<=3", "a <= 3"), ("a>=3", "a >= 3"), ("a!=3", "a != 3"), ("a<-3", "a < -3"), ("a>b=>a=-3", "a > b => a = -3"),
            ("true=>true", "true => true"), ("a given=>b given", "a given => b given"),
        ]:
            self.assertEqual(str(condition(text)), wanted)
        for text, wanted in [
            ("a=>3", 1), ("a==3", 2), ("a=>=3", 1), ("a<>3", 2), ("a=<3", 2), ("a!3", 1), ("a! =3", 1), ("a< =3", 3),
            ("a<==3", 3), ("a>==3", 3), ("a===3", 2), ("a<=>3", 3), ("true= >true", 4), ("true>=true", 4), ("a==>b", 2),
            ("a!==3", 3), ("a=!3", 2),
        ]:
            self.assertEqual(position(text), wanted, text)

    def test_characters_that_begin_no_token(self):
        for sign in "!\"#$&*+-./:;?@[\\]^_`{|}~'AZ\n\t":
            for text, wanted in [(f"{sign}a given", 0), (f"a {sign}given", 2), (f"a given{sign}", 7), (f"a = {sign} 3", 4)]:
                with self.subTest(text=text):
                    self.assertEqual(position(text), wanted)


class Rules(unittest.TestCase):
    """Point 7."""

    def test_each_rule(self):
        texts = [
            "true", "false", "a given", "c given", "not true", "not not not a given", "( true )", "( ( a given ) )",
            "true and false", "true or false", "true => false", "true and false and true", "true or false or true",
            "true => false => true", "a = b", "a != b", "a < b", "a <= b", "a > b", "a >= b", "a = a", "c = d", "c != d",
            "c = c", "a = 3", "a != -7/2", "a < 0", "a <= 1/2", "a > 10", "a >= 3", "c = 'red'", "c != 'given'",
            "a in ( 3 )", "a in ( 3 , -2 , 7/2 )", "a in ( 3 , 3 )", "c in ( 'red' )", "c in ( 'red' , 'and' , 'red' )",
            "not ( a given and not c given ) or ( b > 3 => d = c ) and true",
        ]
        for text in texts:
            with self.subTest(text=text):
                self.assertEqual(str(condition(text)), text)
                self.assertTrue(is_condition(text.split(), KINDS))

    def test_no_text(self):
        for thing in STRANGE:
            if not isinstance(thing, str):
                self.assertEqual(position(thing), -1)
        self.assertEqual(position(["true"]), -1)
        self.assertEqual(position(condition("true")), -1)

    def test_strange_texts(self):
        for text in STRANGE:
            if isinstance(text, str):
                self.assertEqual(position(text), wrong_at(text, KINDS))

    def test_ends_too_early(self):
        for text in [
            "", "not", "(", "a", "c", "a =", "a <=", "c !=", "a in", "a in (", "a in ( 3", "a in ( 3 ,", "( true", "( ( true )",
            "true and", "true or", "true =>", "not (", "a = 3 and", "( a in ( 3 )", "c in ( 'red' ,", "true => ( false",
        ]:
            for spaces in range(3):
                with self.subTest(text=text):
                    self.assertEqual(position(text + " " * spaces), len(text) + spaces)
                    self.assertEqual(position(" " * spaces + text), len(text) + spaces)

    def test_spoilt(self):
        for text, wanted in [
            ("and", 0), (") true", 0), ("3", 0), ("'red'", 0), ("given", 0), ("in", 0), ("e given", 0), (",", 0), ("=", 0),
            ("blank", 0), ("number", 0), ("a true", 2), ("a not", 2), ("a b", 2), ("a 3", 2), ("a and b", 2), ("a )", 2),
            ("a , b", 2), ("( a )", 4), ("not a", 5), ("a given given", 8), ("a given b", 8), ("a given )", 8), ("a given (", 8),
            ("a given not true", 8), ("a given = 3", 8), ("true = true", 5), ("true given", 5), ("true , true", 5),
            ("( true ) )", 9), ("( true ) true", 9), ("true ( true )", 5), ("a = b = a", 6), ("a < 3 < b", 6), ("3 = a", 0),
            ("a = not", 4), ("a = ( 3 )", 4), ("a = true", 4), ("a = given", 4), ("a = e", 4), ("a = blank", 4), ("a = number", 4),
            ("a in 3", 5), ("a in b", 5), ("a in ( )", 7), ("a in ( b )", 7), ("a in ( 3 3 )", 9), ("a in ( 3 , )", 11),
            ("a in ( , 3 )", 7), ("a in ( 3 ; 4 )", 9), ("a in ( 3 or 4 )", 9), ("a in ( ( 3 ) )", 7), ("a in ( 3 = 3 )", 9),
            ("a in ( 3 ) )", 11), ("a in ( 3 ) 4", 11), ("a not in ( 3 )", 2), ("a = 3 , 4", 6), ("a given and and", 12),
            ("a given or => true", 11), ("true => => true", 8), ("not and true", 4), ("not ) true", 4), ("( )", 2), ("( or", 2),
        ]:
            with self.subTest(text=text):
                self.assertEqual(position(text), wanted)
                self.assertEqual(wrong_at(text, KINDS), wanted)

    def test_wrong_kinds(self):
        for text, wanted in [
            ("c < d", 2), ("c <= 'red'", 2), ("c > d", 2), ("c >= 3", 2), ("a = c", 4), ("c = a", 4), ("a = 'red'", 4),
            ("c = 3", 4), ("a in ( 'red' )", 7), ("c in ( 3 )", 7), ("a in ( 3 , 'red' )", 11), ("c in ( 'red' , 3 )", 15),
            ("a < c", 4), ("c != b", 5), ("c != -2", 5), ("a in ( b )", 7), ("c in ( d )", 7), ("c = red", 4), ("c = and", 4),
        ]:
            with self.subTest(text=text):
                self.assertEqual(position(text), wanted)
                self.assertEqual(wrong_at(text, KINDS), wanted)

    def test_the_layout_decides(self):
        self.assertEqual(position("a = b", ONE), 0)
        self.assertEqual(position("x = a", ONE), 4)
        self.assertEqual(str(condition("x = x", ONE)), "x = x")

    def test_cut_off_and_spoilt_at_each_token(self):
        chance = random.Random(5)
        others = ["and", "or", "not", "=>", "(", ")", "true", "given", "in", ",", "=", "!=", "<", "a", "b", "c", "e", "3", "06",
                  "6/2", "'red'", "'", "-", "blank", "A", "!", "/"]
        for tree in random_trees(6, 60, 2):
            tokens = tree_tokens(tree, more=lambda: chance.random() < 0.2)
            self.assertEqual(position_or_none(" ".join(tokens)), None)
            for at in range(len(tokens)):
                spoilt = [
                    tokens[:at], tokens[:at] + tokens[at + 1:], tokens[:at] + [chance.choice(others)] + tokens[at:],
                    tokens[:at] + [chance.choice(others)] + tokens[at + 1:],
                ]
                for found in spoilt:
                    text = chance.choice(["", "  "]) + chance.choice([" ", "  "]).join(found) + chance.choice(["", " "])
                    with self.subTest(text=text):
                        self.assertEqual(position_or_none(text), wrong_at(text, KINDS))

    def test_characters_put_in_and_left_out(self):
        chance = random.Random(8)
        for tree in random_trees(9, 60, 2):
            text = "".join([token + chance.choice(["", " ", " "]) for token in tree_tokens(tree)])
            for _ in range(8):
                at = chance.randrange(len(text))
                new = chance.choice("ab3-/'=<>!(), ~")
                for found in (text[:at] + text[at + 1:], text[:at] + new + text[at:], text[:at] + new + text[at + 1:]):
                    with self.subTest(text=found):
                        self.assertEqual(position_or_none(found), wrong_at(found, KINDS))

    def test_long_and_deep(self):
        deep = "( " * 40 + "a given" + " )" * 40
        self.assertEqual(str(condition(deep)), deep)
        for text in ["not " * 40 + "a given", "a given => " * 40 + "b given", "not ( " * 40 + "true" + " )" * 40]:
            self.assertEqual(str(condition(text)), text)
        for word in ("and", "or"):
            text = f" {word} ".join(["a = b"] * 100)
            self.assertEqual(str(condition(text)), text)
            self.assertEqual(position(f"{text} {word}"), len(text) + len(word) + 1)
        self.assertEqual(position(deep + " )"), len(deep) + 1)
        self.assertEqual(position(deep[:-1]), len(deep) - 1)

    def test_beyond_the_bounds_no_error(self):
        for text in ["( " * 300 + "a given" + " )" * 300, "not " * 500 + "a given", "a given => " * 300 + "b given"]:
            self.assertEqual(str(condition(text)), text)
            self.assertIs(condition(text)(LAYOUT.fill(a=1, b=1)), True)


def position_or_none(text):
    try:
        condition(text)
    except BadCondition as error:
        return error.at
    return None


class Holding(unittest.TestCase):
    """Point 9."""

    def test_given_and_truths(self):
        self.assertIs(holds("true"), True)
        self.assertIs(holds("false"), False)
        self.assertIs(holds("a given", a=0), True)
        self.assertIs(holds("a given", b=0), False)
        self.assertIs(holds("c given", c="blank"), True)
        self.assertIs(holds("c given"), False)

    def test_comparisons_of_numbers(self):
        for one, other, order in [(1, 2, -1), (2, 2, 0), (3, 2, 1), ((1, 3), (1, 2), -1), ((7, 2), 3, 1), (-1, (-1, 2), -1)]:
            for sign, orders in [("=", (0,)), ("!=", (-1, 1)), ("<", (-1,)), ("<=", (-1, 0)), (">", (1,)), (">=", (0, 1))]:
                self.assertIs(holds(f"a {sign} b", a=one, b=other), order in orders)
        self.assertIs(holds("a < 7/2", a=3), True)
        self.assertIs(holds("a < 7/2", a=4), False)
        self.assertIs(holds("a >= -1/3", a=(-1, 3)), True)
        near = condition(f"a < {HUGE}/{HUGE + 1}", NUMBERS)
        self.assertIs(near({"a": (HUGE - 1, HUGE), "b": None}), True)
        self.assertIs(near({"a": (HUGE, HUGE + 1), "b": None}), False)

    def test_comparisons_of_words(self):
        for one, other in product(["red", "blue", "and"], repeat=2):
            self.assertIs(holds("c = d", c=one, d=other), one == other)
            self.assertIs(holds("c != d", c=one, d=other), one != other)
            self.assertIs(holds(f"c = '{other}'", c=one), one == other)
            self.assertIs(holds(f"c != '{other}'", c=one), one != other)

    def test_comparisons_with_blank_fields_do_not_hold(self):
        for sign in ("=", "!=", "<", "<=", ">", ">="):
            for values in ({}, {"a": 0}, {"b": 0}):
                self.assertIs(holds(f"a {sign} b", **values), False)
                self.assertIs(holds(f"not a {sign} b", **values), True)
            self.assertIs(holds(f"a {sign} 0"), False)
            self.assertIs(holds(f"a {sign} a"), False)
        for sign in ("=", "!="):
            for values in ({}, {"c": "red"}, {"d": "red"}):
                self.assertIs(holds(f"c {sign} d", **values), False)
            self.assertIs(holds(f"c {sign} 'red'"), False)
        self.assertIs(holds("a in ( 0 )"), False)
        self.assertIs(holds("c in ( 'red' )"), False)

    def test_in(self):
        for value, wanted in [(3, True), ((7, 2), True), (-2, True), (4, False), (None, False), ((-7, 2), False)]:
            self.assertIs(holds("a in (3, 7/2, -2, 3)", a=value), wanted)
        for value, wanted in [("red", True), ("in", True), ("re", False), (None, False)]:
            self.assertIs(holds("c in ('red', 'in')", c=value), wanted)

    def test_words_between(self):
        for one, other in product([True, False], repeat=2):
            text_one, text_other = str(one).lower(), str(other).lower()
            self.assertIs(holds(f"{text_one} and {text_other}"), one and other)
            self.assertIs(holds(f"{text_one} or {text_other}"), one or other)
            self.assertIs(holds(f"{text_one} => {text_other}"), not one or other)
            self.assertIs(holds(f"not {text_one}"), not one)

    def test_what_binds_more(self):
        # not, then and, then or, then =>, and that one from the right.
        for text, wanted in [
            ("true or false and false", True), ("( true or false ) and false", False), ("false and false or true", True),
            ("false => false => false", True), ("( false => false ) => false", False), ("not false and false", False),
            ("not ( false and false )", True), ("not true or true", True), ("not true => false", True),
            ("not ( true => false )", True), ("true or true => false", False), ("true or ( true => false )", True),
            ("false and true => true", True), ("true => false or true", True), ("true => false and true", False),
            ("not not true", True), ("not not not true", False), ("true => true => false", False),
            ("true => false => true", True), ("( true => false ) and true => false", True),
        ]:
            self.assertIs(holds(text), wanted, text)

    def test_as_the_document_says(self):
        chance = random.Random(1)
        for tree in random_trees(2, 300):
            for more in (lambda: False, lambda: chance.random() < 0.3):
                found = condition(" ".join(tree_tokens(tree, more=more)))
                for filling in some_fillings(chance, 12):
                    self.assertIs(found(filling), tree_holds(tree, filling))

    def test_patterns_decide(self):
        """What holds for a filling holds for all fillings with its pattern."""
        for tree in random_trees(3, 60, 2):
            found = condition(" ".join(tree_tokens(tree)))
            wide = Wide.of(found)
            known = {}
            for filling in some_fillings(random.Random(4), 40):
                self.assertIs(known.setdefault(wide.pattern_of(filling), found(filling)), found(filling))
                again = wide.fill(wide.pattern_of(filling))
                self.assertIs(found(again), found(filling))

    def test_what_is_no_filling(self):
        found = condition("true")
        full = LAYOUT.fill(a=1)
        for thing in STRANGE + [dict(full, more=1), {"a": 1}, list(full.items())]:
            self.assertIsNone(error_of(BadFilling, found, thing))
        self.assertEqual(error_of(BadFilling, found, dict(full, d=1, c=2)), "c")
        self.assertEqual(error_of(BadFilling, found, dict(full, b=True)), "b")
        self.assertEqual(error_of(BadFilling, found, filling=dict(full, a=(2, 2))), "a")

    def test_the_filling_is_not_changed(self):
        filling = {"d": "red", "a": 1, "c": None, "b": 2}
        self.assertTrue(condition("a < b and d = 'red'")(filling))
        self.assertEqual(list(filling.items()), [("d", "red"), ("a", 1), ("c", None), ("b", 2)])


class Wide(Space):
    """A space for conditions that have more patterns than a Space may have."""

    MOST = 10 ** 9


class WhatItHas(unittest.TestCase):

    def test_attributes(self):
        found = condition("d='red' or a > 7/2 and b in (3, -2, 3) => a < -2 and c in ('blue', 'and', 'red')")
        self.assertEqual(found.layout, LAYOUT)
        self.assertEqual(found.numbers, (-2, 3, (7, 2)))
        self.assertEqual(found.words, ("and", "blue", "red"))
        self.assertIs(type(found.numbers), tuple)
        self.assertIs(type(found.words), tuple)
        self.assertEqual((condition("true").numbers, condition("a = b").words), ((), ()))
        self.assertEqual(condition("a in (10, 9, -1/2, -1/3, 1/3)").numbers, ((-1, 2), (-1, 3), (1, 3), 9, 10))

    def test_mentions_in_the_order_of_the_layout(self):
        for text, wanted in [
            ("true", []), ("d given or a given", ["a", "d"]), ("b < a", ["a", "b"]), ("c = 'd'", ["c"]), ("a = 3 or a = 4", ["a"]),
            ("d in ('a', 'b')", ["d"]), ("not (d = c => b != 0)", ["b", "c", "d"]),
        ]:
            self.assertEqual(condition(text).mentions(), wanted)

    def test_mentions_are_new(self):
        found = condition("a < b")
        found.mentions().append("c")
        self.assertEqual(found.mentions(), ["a", "b"])

    def test_of_random_ones(self):
        for tree in random_trees(12, 100):
            found = condition("".join([" " + token for token in tree_tokens(tree)]))
            self.assertEqual(found.mentions(), [name for name, _ in FIELDS if name in tree_fields(tree)])
            self.assertEqual(str(found), " ".join(tree_tokens(tree)))
            spelled = {token[1:-1] for token in tree_tokens(tree) if token.startswith("'")}
            self.assertEqual(found.words, tuple(sorted(spelled)))

    def test_str(self):
        self.assertEqual(str(condition("  a in(3,4)and(c='red')")), "a in ( 3 , 4 ) and ( c = 'red' )")

    def test_equal(self):
        one = condition("a = 3 and c given")
        self.assertTrue(one == condition(" a=3  and c given "))
        self.assertFalse(one != condition("a=3 and c given"))
        same = Condition("a=3 and c given", Layout(list(FIELDS)))
        self.assertTrue(one == same)
        for text in ("a = 3 and ( c given )", "c given and a = 3", "a = 3", "a = 3 or c given", "b = 3 and c given"):
            self.assertFalse(one == condition(text))
            self.assertTrue(one != condition(text))
        self.assertFalse(condition("true") == condition("true", ONE))
        self.assertFalse(condition("true") == condition("true", Layout(FIELDS[:3])))

    def test_equal_to_nothing_else(self):
        one = condition("a = 3")
        for thing in STRANGE + ["a = 3", LAYOUT, ["a", "=", "3"]]:
            self.assertFalse(one == thing)
            self.assertTrue(one != thing)

    def test_by_name(self):
        found = Condition(layout=LAYOUT, text="a = 3")
        self.assertIs(found(filling=LAYOUT.fill(a=3)), True)


class Joining(unittest.TestCase):

    def test_as_written(self):
        one, other = condition("a = 3 or b given"), condition("c given=>d given")
        self.assertEqual(str(one & other), "( a = 3 or b given ) and ( c given => d given )")
        self.assertEqual(str(one | other), "( a = 3 or b given ) or ( c given => d given )")
        self.assertEqual(str(one >> other), "( a = 3 or b given ) => ( c given => d given )")
        self.assertEqual(str(~one), "not ( a = 3 or b given )")
        for found in (one & other, one | other, one >> other, ~one):
            self.assertIsInstance(found, Condition)
            self.assertTrue(found == condition(str(found)))
            self.assertEqual(found.layout, LAYOUT)
        self.assertEqual((str(one), str(other)), ("a = 3 or b given", "c given => d given"))
        self.assertEqual((one & other).numbers, (3,))
        self.assertEqual((one & other).mentions(), ["a", "b", "c", "d"])
        self.assertEqual(str(one & one), "( a = 3 or b given ) and ( a = 3 or b given )")

    def test_what_they_mean(self):
        chance = random.Random(15)
        trees = random_trees(16, 40, 2)
        for tree, more in zip(trees, trees[1:]):
            one, other = condition(" ".join(tree_tokens(tree))), condition(" ".join(tree_tokens(more)))
            for filling in some_fillings(chance, 10):
                first, second = tree_holds(tree, filling), tree_holds(more, filling)
                self.assertIs((one & other)(filling), first and second)
                self.assertIs((one | other)(filling), first or second)
                self.assertIs((one >> other)(filling), not first or second)
                self.assertIs((~one)(filling), not first)

    def test_unlike(self):
        one, other = condition("true"), condition("true", ONE)
        for call in (lambda: one & other, lambda: other | one, lambda: one >> other, lambda: one.breach(other)):
            self.assertIsNone(error_of(Unlike, call))
        self.assertIsNone(error_of(Unlike, one.implies, other))
        self.assertIsNone(error_of(Unlike, other.implies, one))
        self.assertEqual(str(one & Condition("false", Layout(list(FIELDS)))), "( true ) and ( false )")


class Breaches(unittest.TestCase):

    def test_the_first_pattern(self):
        one, other = condition("a < 3 or b given", NUMBERS), condition("a given", NUMBERS)
        found = one.breach(other)
        self.assertEqual(found, {"a": None, "b": found["b"]})
        space = Space.of(one, other)
        self.assertEqual(space.pattern_of(found), ((), (0, 0)))
        self.assertIs(one.implies(other), False)

    def test_none(self):
        for one, other in [
            ("a < b", "a <= b"), ("a < b", "b > a"), ("a = 3", "a in (3, 4)"), ("false", "true"), ("a = b", "a given and b given"),
            ("a > 3", "a > 2"), ("a > 7/2", "not a in (3, 7/2)"), ("a < b and b < 3", "a < 3"), ("true", "a given or not a given"),
        ]:
            one, other = condition(one, NUMBERS), condition(other, NUMBERS)
            self.assertIsNone(one.breach(other))
            self.assertIs(one.implies(other), True)

    def test_not_the_other_way(self):
        for one, other in [("a <= b", "a < b"), ("a in (3, 4)", "a = 3"), ("a != b", "a < b"), ("not a < 3", "a >= 3")]:
            one, other = condition(one, NUMBERS), condition(other, NUMBERS)
            found = one.breach(other=other)
            self.assertTrue(NUMBERS.is_filling(found))
            self.assertEqual(list(found), ["a", "b"])
            self.assertTrue(one(found) and not other(found))
            self.assertIs(one.implies(other=other), False)

    def test_constants_of_both(self):
        # Between the constants of one alone, nothing tells them apart.
        one, other = condition("x > 3", ONE), condition("x > 3 and x != 7", ONE)
        self.assertEqual(one.breach(other), {"x": 7})
        self.assertIsNone(other.breach(one))

    def test_as_the_document_says(self):
        chance = random.Random(21)
        layout = Layout([("a", "number"), ("c", "word")])
        kinds, constants = {"a": "number", "c": "word"}, {"number": ["0", "7/2"], "word": ["'red'", "'a'"]}
        seen = {True: 0, False: 0}
        for _ in range(120):
            trees = [random_tree(chance, kinds, constants, 2) for _ in range(2)]
            one, other = [Condition(" ".join(tree_tokens(tree)), layout) for tree in trees]
            space = Space.of(one, other)
            fillings = [dict(zip("ac", values)) for values in product(*candidates(kinds.values(), space.numbers, space.words))]
            wanted = [
                space.pattern_of(filling) for filling in fillings
                if tree_holds(trees[0], filling) and not tree_holds(trees[1], filling)
            ]
            found = one.breach(other)
            self.assertEqual(None if found is None else space.pattern_of(found), min(wanted) if wanted else None)
            self.assertIs(one.implies(other), not wanted)
            seen[not wanted] += 1
        self.assertGreater(min(seen.values()), 20)

    def test_new_each_time(self):
        one, other = condition("a given", NUMBERS), condition("false", NUMBERS)
        one.breach(other)["a"] = "changed"
        self.assertTrue(NUMBERS.is_filling(one.breach(other)))

    def test_too_many(self):
        texts = ["x in (" + ", ".join([str(k) for k in some]) + ")" for some in (range(40), range(39, 79), range(40, 80))]
        one, other, more = [condition(text, ONE) for text in texts]
        self.assertIs(one.implies(other), False)
        self.assertEqual(error_of(TooMany, one.breach, more), "patterns")
        self.assertEqual(error_of(TooMany, one.implies, more), "patterns")
        # Without looking at patterns there would be an answer, too.
        self.assertEqual(error_of(TooMany, (one & more).implies, condition("true", ONE)), "patterns")
        self.assertIsNone(error_of(Unlike, (one & more).implies, condition("true")))

    def test_layouts_with_too_many(self):
        layout = Layout([(name, "number") for name in "abcde"])
        found = condition("a < b", layout)
        self.assertTrue(found(layout.fill(a=1, b=2)))
        self.assertEqual(error_of(TooMany, found.breach, found), "patterns")


class SpacesOfConditions(unittest.TestCase):
    """Point 10."""

    def test_constants(self):
        layout = Layout([("a", "number"), ("c", "word")])
        one, other = condition("a > 3 or c = 'red'", layout), condition("a in (1/2, 3)", layout)
        space = Space.of(one, other)
        self.assertEqual((space.layout, space.numbers, space.words), (layout, ((1, 2), 3), ("red",)))
        self.assertEqual(Space.of(other).words, ())
        self.assertIsNone(error_of(Unlike, Space.of, one, condition("true")))


if __name__ == "__main__":
    unittest.main()
