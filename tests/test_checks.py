"""mendrounds/checks.py: points 14, 15 and 17, and the lines of point 18."""
import unittest

from mendrounds.checks import Barrier, Check, Default, Exit, Guard, Repair
from mendrounds.conditions import Condition
from mendrounds.errors import BadCheck, MendroundsError
from mendrounds.layouts import Layout
from support import STRANGE, error_of

LAYOUT = Layout([("low", "number"), ("high", "number"), ("color", "word"), ("shape", "word")])
NEEDS = Condition("low < high", LAYOUT)
RESERVED = (
    "and or not in given true false blank number word needs instead after blames check guard barrier repair "
    "default exit self"
).split()
NO_NAMES = RESERVED + ["", "Low", "l w", "ninechars", "low1", "l_w", None, True, 1, ("low",), ["low"], {}, b"low"]
STAND_INS = {"color": "red", "low": None}
# Each kind with what it can be made with.
KINDS = [
    (Check, ("blames", "after")), (Guard, ("after",)), (Barrier, ("blames", "after")), (Repair, ("instead", "blames", "after")),
    (Default, ("instead", "after")), (Exit, ("after",)),
]


def made(kind, name="some", needs=NEEDS, **named):
    parts = {"instead": STAND_INS} if kind in (Repair, Default) else {}
    return kind(name, needs, **dict(parts, **named))


class Kinds(unittest.TestCase):
    """Point 15."""

    def test_what_stands_under_what(self):
        self.assertEqual(Guard.__bases__, (Check,))
        self.assertEqual(Barrier.__bases__, (Check,))
        self.assertEqual(Repair.__bases__, (Check,))
        self.assertEqual(Default.__bases__, (Guard, Repair))
        self.assertEqual(Exit.__bases__, (Guard, Barrier))

    def test_each_kind(self):
        wanted = [
            (Check, "check", True, False, [], {}), (Guard, "guard", False, False, ["silent"], {}),
            (Barrier, "barrier", True, True, ["stops"], {}),
            (Repair, "repair", True, False, ["repairs"], {"low": None, "color": "red"}),
            (Default, "default", False, False, ["repairs", "silent"], {"low": None, "color": "red"}),
            (Exit, "exit", False, True, ["stops", "silent"], {}),
        ]
        for kind, word, is_telling, stops, effects, instead in wanted:
            with self.subTest(kind=word):
                check = made(kind)
                self.assertEqual((kind.KIND, check.KIND), (word, word))
                self.assertIs(check.is_telling, is_telling)
                self.assertIs(check.stops, stops)
                self.assertEqual(check.effects(), effects)
                self.assertEqual(check.instead, instead)
                self.assertIsInstance(check, Check)

    def test_effects_follow_the_order_of_inheritance(self):
        class Both(Barrier, Repair):
            pass

        class Other(Repair, Barrier):
            pass

        class All(Guard, Both):
            pass

        self.assertEqual(Both.__new__(Both).effects(), ["repairs", "stops"])
        self.assertEqual(Other.__new__(Other).effects(), ["stops", "repairs"])
        self.assertEqual(All.__new__(All).effects(), ["repairs", "stops", "silent"])

    def test_defined_where_the_document_says(self):
        for kind in (Check, Guard, Barrier, Repair):
            self.assertIn("effects", vars(kind))
        for name in ("is_telling", "stops", "instead"):
            self.assertIsInstance(vars(Check)[name], property)
        for kind, _ in KINDS:
            self.assertIn("KIND", vars(kind))

    def test_effects_are_new(self):
        for kind, _ in KINDS:
            check = made(kind)
            before = check.effects()
            check.effects().append("more")
            check.effects().clear()
            self.assertEqual(check.effects(), before)


class Attributes(unittest.TestCase):

    def test_name_and_needs(self):
        for kind, _ in KINDS:
            check = made(kind, "abcdefgh")
            self.assertEqual(check.name, "abcdefgh")
            self.assertEqual(check.needs, NEEDS)
            self.assertEqual((check.blames, check.after), ((), ()))

    def test_the_name_of_a_field(self):
        self.assertEqual(made(Check, "low").name, "low")

    def test_blames_in_the_order_of_the_layout(self):
        for kind in (Check, Barrier, Repair):
            for blames, wanted in [
                (["color", "low"], ("low", "color")), (("shape", "high"), ("high", "shape")), ([], ()), ((), ()),
                (["shape", "color", "high", "low"], ("low", "high", "color", "shape")), (["color"], ("color",)),
            ]:
                found = made(kind, blames=blames).blames
                self.assertEqual(found, wanted)
                self.assertIs(type(found), tuple)

    def test_after_as_passed(self):
        for kind, _ in KINDS:
            for after in (["zoo", "ant", "low"], ("b", "a"), [], ()):
                found = made(kind, after=after).after
                self.assertEqual(found, tuple(after))
                self.assertIs(type(found), tuple)

    def test_silent_kinds_blame_nothing(self):
        for kind in (Guard, Default, Exit):
            self.assertEqual(made(kind).blames, ())
            self.assertRaises(TypeError, made, kind, blames=["low"])

    def test_stand_ins_in_the_order_of_the_layout(self):
        instead = {"shape": "and", "high": (7, 2), "low": -1, "color": None}
        for kind in (Repair, Default):
            check = made(kind, instead=instead)
            self.assertEqual(list(check.instead.items()), [("low", -1), ("high", (7, 2)), ("color", None), ("shape", "and")])

    def test_only_the_listed_arguments(self):
        for kind, parts in KINDS:
            for part in ("blames", "after", "instead"):
                if part not in parts:
                    self.assertRaises(TypeError, made, kind, **{part: {"low": 1} if part == "instead" else ()})
            self.assertRaises(TypeError, kind, "some", NEEDS, ())
        for kind in (Repair, Default):
            self.assertRaises(TypeError, kind, "some", NEEDS)

    def test_by_name(self):
        check = Repair(after=["x"], blames=["low"], instead={"low": 1}, needs=NEEDS, name="some")
        self.assertEqual((check.name, check.after, check.blames, check.instead), ("some", ("x",), ("low",), {"low": 1}))
        self.assertEqual(Exit(needs=NEEDS, name="some", after=("x",)).after, ("x",))

    def test_arguments_are_copied_and_not_changed(self):
        blames, after, instead = ["color", "low"], ["zoo", "ant"], {"shape": "x", "low": 1}
        check = made(Repair, blames=blames, after=after, instead=instead)
        self.assertEqual((blames, after, list(instead)), (["color", "low"], ["zoo", "ant"], ["shape", "low"]))
        line = str(check)
        blames.append("high")
        after.clear()
        instead["low"] = 99
        instead["high"] = 3
        self.assertEqual(check.blames, ("low", "color"))
        self.assertEqual(check.after, ("zoo", "ant"))
        self.assertEqual(check.instead, {"low": 1, "shape": "x"})
        self.assertEqual(str(check), line)

    def test_instead_is_new(self):
        for kind, _ in KINDS:
            check = made(kind)
            before = check.instead
            check.instead["low"] = 5
            check.instead["more"] = 5
            self.assertEqual(check.instead, before)


class Lines(unittest.TestCase):
    """Point 18, one line."""

    def test_each_kind(self):
        cases = [
            (made(Check), "check some needs low < high"),
            (made(Check, blames=["color", "low"]), "check some needs low < high blames low , color"),
            (made(Check, after=["b", "a"]), "check some needs low < high after b , a"),
            (made(Barrier, blames=["low"], after=["a"]), "barrier some needs low < high after a blames low"),
            (made(Guard, after=["a"]), "guard some needs low < high after a"),
            (made(Exit), "exit some needs low < high"),
            (made(Repair), "repair some needs low < high instead low = blank , color = 'red'"),
            (
                made(Repair, instead={"high": (-7, 2)}, after=["x"], blames=["shape", "high"]),
                "repair some needs low < high instead high = -7/2 after x blames high , shape",
            ),
            (made(Default, instead={"shape": "self", "low": 0}), "default some needs low < high instead low = 0 , shape = 'self'"),
            (made(Default, after=["a", "b"], instead={"low": 10}), "default some needs low < high instead low = 10 after a , b"),
        ]
        for check, line in cases:
            self.assertEqual(str(check), line)

    def test_the_condition_as_it_is_written(self):
        check = Check("some", Condition("low in(3,4)or(color='red'=>not shape given)", LAYOUT))
        self.assertEqual(str(check), "check some needs low in ( 3 , 4 ) or ( color = 'red' => not shape given )")

    def test_equal(self):
        one = made(Check, blames=["low", "high"], after=["a"])
        same = Condition(" low<high ", Layout([(name, LAYOUT.kind(name)) for name in LAYOUT.names]))
        self.assertTrue(one == made(Check, blames=("high", "low"), after=("a",), needs=same))
        self.assertFalse(one != made(Check, blames=("high", "low"), after=("a",), needs=same))
        others = [
            made(Check, "other", blames=["low", "high"], after=["a"]), made(Check, blames=["low"], after=["a"]),
            made(Check, blames=["low", "high"]), made(Check, blames=["low", "high"], after=["a", "b"]),
            made(Barrier, blames=["low", "high"], after=["a"]),
            made(Check, needs=Condition("low <= high", LAYOUT), blames=["low", "high"], after=["a"]),
        ]
        for other in others:
            self.assertFalse(one == other)
            self.assertFalse(other == one)
            self.assertTrue(one != other)
        self.assertFalse(made(Check, after=["a", "b"]) == made(Check, after=["b", "a"]))
        self.assertTrue(made(Repair) == made(Repair, instead={"low": None, "color": "red"}))
        self.assertFalse(made(Repair) == made(Repair, instead={"low": 0, "color": "red"}))
        self.assertFalse(made(Repair) == made(Default))

    def test_equal_layouts(self):
        layout = Layout([("low", "number"), ("high", "number"), ("color", "word")])
        one, other = made(Check), made(Check, needs=Condition("low < high", layout))
        self.assertEqual(str(one), str(other))
        self.assertFalse(one == other)

    def test_equal_to_nothing_else(self):
        for kind, _ in KINDS:
            for thing in STRANGE + [str(made(kind)), LAYOUT, NEEDS]:
                self.assertFalse(made(kind) == thing)
                self.assertTrue(made(kind) != thing)


class Wrong(unittest.TestCase):

    def test_name(self):
        for kind, _ in KINDS:
            for name in NO_NAMES + [thing for thing in STRANGE if thing != "a"]:
                with self.subTest(kind=kind.KIND, name=name):
                    self.assertEqual(error_of(BadCheck, made, kind, name), "name")
        self.assertTrue(issubclass(BadCheck, MendroundsError))

    def test_blames(self):
        wrong = [
            ["nofield"], ["low", "low"], ("low", "high", "low"), ["low", None], [["low"]], "low", {"low": 1}, {"low"}, None,
            ("low", "Low"), [True], iter(["low"]), ["some"],
        ]
        for kind in (Check, Barrier, Repair):
            for blames in wrong + [thing for thing in STRANGE if thing not in ((), [])]:
                with self.subTest(kind=kind.KIND, blames=blames):
                    self.assertEqual(error_of(BadCheck, made, kind, blames=blames), "blames")

    def test_after(self):
        wrong = [
            ["a", "a"], ("a", "b", "a"), ["some"], ("a", "some"), ["check"], ["a", "Not"], ["ninechars"], "a", {"a": 1}, None,
            [None], [["a"]], [("a",)], ["a", True], [""],
        ]
        for kind, _ in KINDS:
            for after in wrong + [thing for thing in STRANGE if thing not in ((), [], ["a"], ("a",))]:
                with self.subTest(kind=kind.KIND, after=after):
                    self.assertEqual(error_of(BadCheck, made, kind, after=after), "after")

    def test_instead(self):
        wrong = [
            {"nofield": 1}, {"low": 1, "nofield": None}, {"low": "red"}, {"color": 1}, {"low": True}, {"low": (2, 4)},
            {"color": "Red"}, {"color": ""}, {"low": 1, "color": 3}, {"low": [1]}, [("low", 1)], ("low", 1), "low", None,
            {"Low": 1}, {1: 1}, {None: None}, {("low",): 1},
        ]
        for kind in (Repair, Default):
            for instead in wrong + STRANGE:
                with self.subTest(kind=kind.KIND, instead=instead):
                    self.assertEqual(error_of(BadCheck, made, kind, instead=instead), "instead")

    def test_the_first_in_the_order_told(self):
        bad = {"name": "Some", "blames": ["x"], "after": ["some", "some"], "instead": {}}
        order = ["name", "blames", "after", "instead"]
        for kind, parts in KINDS:
            for first in range(4):
                wrong = {part: bad[part] for part in order[first:] if part == "name" or part in parts}
                if wrong:
                    with self.subTest(kind=kind.KIND, wrong=list(wrong)):
                        self.assertEqual(error_of(BadCheck, made, kind, **wrong), list(wrong)[0])


if __name__ == "__main__":
    unittest.main()
