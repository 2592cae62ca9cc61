"""mendrounds/layouts.py: point 5, names, layouts and fillings."""
import unittest

from mendrounds.errors import BadField, BadFilling, BadLayout, BadValue
from mendrounds.layouts import Layout, check_filling
from support import STRANGE, error_of

RESERVED = (
    "and or not in given true false blank number word needs instead after blames check guard barrier repair "
    "default exit self"
).split()
THREE = [("ka", "number"), ("kb", "number"), ("kc", "number")]
MIXED = [("size", "number"), ("color", "word"), ("cost", "number"), ("shape", "word"), ("x", "number")]
NO_NUMBERS = [True, False, "1", (2, 2), (3, 1), (1, -2), (True, 2), [], [1, 2], {}, (), (1,), (1, 2, 3), "red", 1.5]
NO_WORDS = [True, False, 1, (1, 2), "", "Red", "a b", "ninechars", "a1", [], ["red"], {}, (), ("red",)]


class MakingALayout(unittest.TestCase):

    def test_names_kinds_and_length(self):
        for many in range(1, 6):
            layout = Layout(MIXED[:many])
            self.assertEqual(layout.names, tuple([name for name, _ in MIXED[:many]]))
            self.assertIs(type(layout.names), tuple)
            self.assertEqual(len(layout), many)
            self.assertEqual([layout.kind(name) for name in layout.names], [kind for _, kind in MIXED[:many]])
        self.assertEqual(Layout.MOST, 5)
        self.assertEqual(len(Layout(fields=MIXED)), 5)

    def test_names_of_one_to_eight_letters(self):
        self.assertEqual(Layout([("a", "word"), ("abcdefgh", "number")]).names, ("a", "abcdefgh"))

    def test_no_list(self):
        for thing in STRANGE + [tuple(THREE), dict(THREE), "ka number", ("ka", "number"), iter(THREE)]:
            if not isinstance(thing, list):
                with self.subTest(thing=thing):
                    self.assertEqual(error_of(BadLayout, Layout, thing), -1)

    def test_none_or_more_than_five(self):
        self.assertEqual(error_of(BadLayout, Layout, []), -1)
        self.assertEqual(error_of(BadLayout, Layout, MIXED + [("y", "word")]), -1)
        self.assertEqual(error_of(BadLayout, Layout, [None] * 6), -1)
        self.assertEqual(error_of(BadLayout, Layout, [None] * 500), -1)

    def test_wrong_entries(self):
        wrong = [
            ["kb", "number"], ("kb",), ("kb", "number", 1), (), "kb", None, ("kb", "Number"), ("kb", "numbers"),
            ("kb", ""), ("kb", None), ("kb", True), ("kb", ["number"]), ("kb", ("number",)), ("number", "kb"),
            ("", "word"), ("Kb", "word"), ("k1", "word"), ("k b", "word"), ("k_b", "word"), ("abcdefghi", "word"),
            (None, "word"), (True, "word"), (1, "word"), (["kb"], "word"), (("kb",), "word"), {"kb": "word"},
        ]
        for entry in wrong + [(name, "number") for name in RESERVED] + [one for one in STRANGE if one != ("a", "number")]:
            for at in range(3):
                fields = list(THREE)
                fields[at] = entry
                with self.subTest(entry=entry, at=at):
                    self.assertEqual(error_of(BadLayout, Layout, fields), at)

    def test_repeated_names(self):
        self.assertEqual(error_of(BadLayout, Layout, [("a", "number"), ("b", "word"), ("a", "word")]), 2)
        self.assertEqual(error_of(BadLayout, Layout, [("a", "number"), ("a", "number")]), 1)
        self.assertEqual(error_of(BadLayout, Layout, MIXED[:4] + [("size", "number")]), 4)

    def test_the_first_of_several_wrong_entries(self):
        self.assertEqual(error_of(BadLayout, Layout, [("a", "word"), ("a", "word"), None]), 1)
        self.assertEqual(error_of(BadLayout, Layout, [("a", "word"), None, ("a", "word")]), 1)
        self.assertEqual(error_of(BadLayout, Layout, [None, ("a", "word"), ("a", "word")]), 0)

    def test_reserved_words_are_all_known(self):
        self.assertEqual(len(RESERVED), 21)
        for near in ("ands", "inn", "giv", "truth", "blame", "checks", "exits", "selfs", "if", "then", "set", "values"):
            self.assertEqual(Layout([(near, "word")]).names, (near,))

    def test_the_list_is_copied(self):
        fields = list(THREE)
        layout = Layout(fields)
        fields.append(("kd", "word"))
        fields[0] = ("kx", "word")
        self.assertEqual((layout.names, layout.kind("ka"), len(layout)), (("ka", "kb", "kc"), "number", 3))
        self.assertFalse("kd" in layout)

    def test_the_list_is_not_changed(self):
        fields = list(THREE)
        Layout(fields)
        self.assertEqual(fields, THREE)


class AskingALayout(unittest.TestCase):

    def setUp(self):
        self.layout = Layout(MIXED)

    def test_in(self):
        for name, _ in MIXED:
            self.assertIs(name in self.layout, True)
        for thing in STRANGE + ["siz", "sizes", "Size", ("size",), ["size"], ("size", "number"), self.layout]:
            with self.subTest(thing=thing):
                self.assertIs(thing in self.layout, False)

    def test_kind_of_no_field(self):
        for thing in STRANGE + ["siz", "Size", ("size",), ["size"]]:
            with self.subTest(thing=thing):
                self.assertIs(error_of(BadField, self.layout.kind, thing), thing)
        self.assertEqual(self.layout.kind(name="shape"), "word")

    def test_equal(self):
        self.assertTrue(self.layout == Layout(list(MIXED)))
        self.assertFalse(self.layout != Layout(list(MIXED)))
        others = [MIXED[:4], MIXED[::-1], MIXED[1:], [MIXED[1], MIXED[0]] + MIXED[2:], MIXED[:4] + [("x", "word")]]
        others += [MIXED[:4] + [("y", "number")]]
        for fields in others:
            self.assertFalse(self.layout == Layout(fields))
            self.assertTrue(self.layout != Layout(fields))

    def test_equal_to_nothing_else(self):
        for thing in STRANGE + [MIXED, tuple(MIXED), self.layout.names, dict(MIXED)]:
            self.assertFalse(self.layout == thing)
            self.assertFalse(thing == self.layout)
            self.assertTrue(self.layout != thing)


class Filling(unittest.TestCase):

    def test_fill_of_the_document(self):
        layout = Layout(THREE)
        filled = layout.fill(kb=2, ka=1)
        self.assertEqual(filled, {"ka": 1, "kb": 2, "kc": None})
        self.assertEqual(list(filled), ["ka", "kb", "kc"])
        self.assertEqual(error_of(BadField, layout.fill, kc="red", kd=3), "kd")
        self.assertEqual(error_of(BadField, layout.fill, ke=3, kd=3), "ke")
        self.assertEqual(error_of(BadField, layout.fill, kd=3, ke=3), "kd")

    def test_fill_in_any_order(self):
        layout = Layout(MIXED)
        values = {"x": (1, 2), "shape": "and", "size": -3, "cost": None, "color": "red"}
        for names in (list(values), list(values)[::-1], ["color", "size"], ["cost"], []):
            filled = layout.fill(**{name: values[name] for name in names})
            self.assertEqual(filled, {name: values[name] if name in names else None for name, _ in MIXED})
            self.assertEqual(list(filled), [name for name, _ in MIXED])

    def test_fill_gives_a_new_dict(self):
        layout = Layout(THREE)
        first = layout.fill(ka=1)
        first["ka"] = 9
        first["kz"] = 9
        self.assertEqual(layout.fill(ka=1), {"ka": 1, "kb": None, "kc": None})
        self.assertEqual(layout.names, ("ka", "kb", "kc"))

    def test_fields_with_names_that_programs_use(self):
        layout = Layout([("values", "number"), ("fields", "word"), ("name", "number"), ("layout", "word"), ("cls", "word")])
        filled = layout.fill(cls="a", layout="b", name=1, fields="c", values=2)
        self.assertEqual(filled, {"values": 2, "fields": "c", "name": 1, "layout": "b", "cls": "a"})

    def test_wrong_values(self):
        layout = Layout(MIXED)
        for name, kind in MIXED:
            for value in NO_NUMBERS if kind == "number" else NO_WORDS:
                with self.subTest(name=name, value=value):
                    self.assertEqual(error_of(BadValue, layout.fill, **{name: value}), name)
        self.assertEqual(layout.fill(size=10 ** 250)["size"], 10 ** 250)

    def test_a_reserved_word_is_a_value(self):
        layout = Layout([("a", "word")])
        for word in RESERVED:
            self.assertEqual(layout.fill(a=word), {"a": word})

    def test_the_first_wrong_value_in_the_order_of_the_layout(self):
        layout = Layout(MIXED)
        self.assertEqual(error_of(BadValue, layout.fill, x="a", shape=1, cost="a"), "cost")
        self.assertEqual(error_of(BadValue, layout.fill, shape=1, color="", x=True), "color")
        self.assertEqual(error_of(BadValue, layout.fill, x=True, shape="a", size=1), "x")

    def test_a_wrong_keyword_comes_first(self):
        layout = Layout(MIXED)
        self.assertEqual(error_of(BadField, layout.fill, size="red", wrong=1), "wrong")
        self.assertEqual(error_of(BadField, layout.fill, size="red", Size=1, color=1), "Size")


class IsFilling(unittest.TestCase):

    def setUp(self):
        self.layout = Layout(MIXED)
        self.full = self.layout.fill(size=1, color="red", cost=(1, 2), shape="self", x=0)

    def test_fillings(self):
        backwards = {name: self.full[name] for name in list(self.full)[::-1]}
        for thing in (self.full, backwards, self.layout.fill(), self.layout.fill(cost=-3)):
            self.assertIs(self.layout.is_filling(thing), True)
            self.assertIsNone(check_filling(self.layout, thing))
        self.assertTrue(self.layout.is_filling(thing=self.full))

    def test_no_fillings(self):
        fewer = {name: self.full[name] for name in list(self.full)[1:]}
        other = dict(fewer, sizes=1)
        for thing in STRANGE + [fewer, other, dict(self.full, more=None), list(self.full.items()), tuple(self.full)]:
            with self.subTest(thing=thing):
                self.assertIs(self.layout.is_filling(thing), False)
                self.assertIsNone(error_of(BadFilling, check_filling, self.layout, thing))

    def test_wrong_values(self):
        for name, kind in MIXED:
            for value in NO_NUMBERS if kind == "number" else NO_WORDS:
                with self.subTest(name=name, value=value):
                    thing = dict(self.full, **{name: value})
                    self.assertIs(self.layout.is_filling(thing), False)
                    self.assertEqual(error_of(BadFilling, check_filling, self.layout, thing), name)

    def test_the_first_wrong_field(self):
        thing = {"x": "a", "shape": 3, "cost": "b", "color": "c", "size": 1}
        self.assertEqual(error_of(BadFilling, check_filling, self.layout, thing), "cost")


if __name__ == "__main__":
    unittest.main()
