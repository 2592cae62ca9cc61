"""mendrounds/forms.py: points 16 to 18, demands, and what point 10 says of forms."""
import random
import unittest

from mendrounds.checks import Barrier, Check, Default, Exit, Guard, Repair
from mendrounds.conditions import Condition
from mendrounds.errors import BadCheck, BadFilling, BadForm, NoCheck, Refused, TooMany, Unlike
from mendrounds.forms import Form
from mendrounds.layouts import Layout
from mendrounds.reports import Report
from mendrounds.spaces import Space
from plans import (
    NAMES, TELLING, made_form, plan_lines, plan_text, random_filling, random_plan, reported, trail_of,
)
from support import STRANGE, error_of

FIELDS = (("low", "number"), ("high", "number"), ("color", "word"))
LAYOUT = Layout(list(FIELDS))
ORDERED = "\n".join([
    "number a", "number b", "check there needs a given and b given blames a , b", "check order needs a < b after there blames b",
])
CHAIN = "\n".join([
    "number a", "number b", "default one needs a given instead a = 1", "repair two needs a != 1 instead b = 2 blames b , a",
    "guard three needs b != 2", "check four needs b = 3 blames b", "check five needs true blames a", "check six needs a given or b = 3",
])


def check(name, text="low given", layout=LAYOUT, **named):
    return Check(name, Condition(text, layout), **named)


def wrong_line(*lines):
    return error_of(BadForm, Form.read, "\n".join(lines))


class Making(unittest.TestCase):
    """Point 16."""

    def test_layout_checks_and_names(self):
        checks = [check("one"), Exit("two", Condition("high given", LAYOUT), after=["one"]), check("low", after=["two", "one"])]
        form = Form(LAYOUT, *checks)
        self.assertEqual(form.layout, LAYOUT)
        self.assertEqual(form.checks, tuple(checks))
        self.assertEqual(form.names, ("one", "two", "low"))
        self.assertIs(type(form.checks), tuple)
        self.assertIs(type(form.names), tuple)
        self.assertEqual(len(form), 3)
        self.assertEqual([one.name for one in form], ["one", "two", "low"])
        self.assertEqual([one.name for one in form], ["one", "two", "low"])
        self.assertEqual(list(form), checks)

    def test_one_to_eight_checks(self):
        self.assertEqual(Form.MOST, 8)
        for many in range(1, 9):
            self.assertEqual(len(Form(LAYOUT, *[check(name) for name in NAMES[:many]])), many)
        self.assertEqual(error_of(BadForm, Form, LAYOUT), -1)
        self.assertEqual(error_of(BadForm, Form, layout=LAYOUT), -1)
        nine = [check(name) for name in [*NAMES, "nine"]]
        self.assertEqual(error_of(BadForm, Form, LAYOUT, *nine), -1)
        self.assertEqual(error_of(BadForm, Form, LAYOUT, *[check("one")] * 9), -1)
        self.assertEqual(error_of(BadForm, Form, LAYOUT, *[check("one", "true", Layout([("x", "word")]))] * 20), -1)

    def test_another_layout(self):
        for fields in ([("low", "number")], list(FIELDS[::-1]), [("low", "word"), *FIELDS[1:]], [*FIELDS, ("more", "word")]):
            other = check("other", "low given", Layout(fields))
            for at in range(3):
                checks = [check("one"), check("two"), check("three")]
                checks[at] = other
                self.assertEqual(error_of(BadForm, Form, LAYOUT, *checks), at)
        self.assertEqual(len(Form(Layout(list(FIELDS)), check("one"), check("two", "true", Layout(list(FIELDS))))), 2)

    def test_repeated_names(self):
        self.assertEqual(error_of(BadForm, Form, LAYOUT, check("one"), check("one")), 1)
        self.assertEqual(error_of(BadForm, Form, LAYOUT, check("one"), check("two"), check("one", "true")), 2)

    def test_after_what_does_not_stand_before(self):
        self.assertEqual(error_of(BadForm, Form, LAYOUT, check("one", after=["two"]), check("two")), 0)
        self.assertEqual(error_of(BadForm, Form, LAYOUT, check("one"), check("two", after=["one", "none"])), 1)
        self.assertEqual(error_of(BadForm, Form, LAYOUT, check("one"), check("two", after=["low"])), 1)

    def test_the_first_wrong_check(self):
        other = check("other", "true", Layout([("x", "word")]))
        self.assertEqual(error_of(BadForm, Form, LAYOUT, check("one"), check("two", after=["x"]), other, check("one")), 1)
        self.assertEqual(error_of(BadForm, Form, LAYOUT, check("one"), check("one"), other), 1)
        self.assertEqual(error_of(BadForm, Form, LAYOUT, check("one"), other, check("one")), 1)

    def test_the_list_of_checks_is_copied(self):
        checks = [check("one"), check("two")]
        form = Form(LAYOUT, *checks)
        checks.pop()
        self.assertEqual(form.names, ("one", "two"))

    def test_class_method(self):
        self.assertIsInstance(vars(Form)["read"], classmethod)


class Asking(unittest.TestCase):

    def setUp(self):
        self.form = Form.read(ORDERED)

    def test_in(self):
        self.assertIs("there" in self.form, True)
        self.assertIs("order" in self.form, True)
        for thing in STRANGE + ["nocheck", "Order", ("order",), ["order"], self.form.checks[0]]:
            self.assertIs(thing in self.form, False)

    def test_item(self):
        self.assertEqual(str(self.form["order"]), "check order needs a < b after there blames b")
        self.assertEqual(self.form["there"].name, "there")
        for thing in STRANGE + ["nocheck", ("order",), ["order"], -1, self.form.checks[0]]:
            self.assertIs(error_of(NoCheck, lambda: self.form[thing]), thing)

    def test_equal(self):
        self.assertTrue(self.form == Form.read(ORDERED.replace(" , ", ",")))
        self.assertFalse(self.form != Form.read(ORDERED))
        for old, new in [("a < b", "a <= b"), ("order", "other"), (" after there", ""), ("a , b", "a"), ("check there", "barrier there")]:
            other = Form.read(ORDERED.replace(old, new))
            self.assertFalse(self.form == other)
            self.assertTrue(self.form != other)
        lines = ORDERED.replace(" after there", "").split("\n")
        one, other = Form.read("\n".join(lines)), Form.read("\n".join(lines[:2] + lines[:1:-1]))
        self.assertFalse(one == other)
        self.assertFalse(Form.read("number a\ncheck x needs true") == Form.read("word a\ncheck x needs true"))
        self.assertFalse(Form.read("number a\ncheck x needs true") == Form.read("number a\ncheck x needs true\ncheck y needs true"))

    def test_equal_to_nothing_else(self):
        for thing in STRANGE + [ORDERED, self.form.checks, list(self.form), self.form.layout]:
            self.assertFalse(self.form == thing)
            self.assertTrue(self.form != thing)

    def test_call(self):
        report = self.form({"a": 1, "b": None})
        self.assertIsInstance(report, Report)
        self.assertEqual((report.form, report.filling, report.told), (self.form, {"a": 1, "b": None}, ("there",)))
        self.assertEqual(self.form(filling={"a": 1, "b": 0}).told, ("order",))
        self.assertEqual(error_of(BadFilling, self.form, {"a": 1, "b": "red"}), "b")


class Constants(unittest.TestCase):
    """Point 10."""

    def test_of_conditions_and_stand_ins(self):
        form = Form.read("\n".join([
            "number a", "word c", "check one needs a in ( 3 , -2 ) or c = 'red'",
            "repair two needs a != 7/2 instead a = 1/2 , c = 'blue'", "default three needs c != 'red' instead a = 3 , c = blank",
        ]))
        self.assertEqual(form.numbers, (-2, (1, 2), 3, (7, 2)))
        self.assertEqual(form.words, ("blue", "red"))
        space = Space.of(form)
        self.assertEqual((space.layout, space.numbers, space.words), (form.layout, form.numbers, form.words))
        self.assertEqual(len(space), 10 * 4)

    def test_none(self):
        form = Form.read(ORDERED)
        self.assertEqual((form.numbers, form.words, len(Space.of(form))), ((), (), 6))
        for found in (form.numbers, form.words):
            self.assertIs(type(found), tuple)

    def test_space_of_several(self):
        one = Form.read("number a\ncheck x needs a = 1")
        other = Form.read("number a\nrepair x needs a given instead a = 2")
        self.assertEqual(Space.of(one, other).numbers, (1, 2))
        self.assertEqual(Space.of(Condition("a > 5", one.layout), other, one).numbers, (1, 2, 5))
        self.assertIsNone(error_of(Unlike, Space.of, one, Form.read(ORDERED)))
        self.assertIsNone(error_of(Unlike, Space.of, one, Condition("true", LAYOUT)))

    def test_forms_with_too_many_can_be_read_written_and_reported_on(self):
        fields = [f"number {name}" for name in "abcde"]
        form = Form.read("\n".join([*fields, "check x needs a < b and c < d blames e"]))
        self.assertEqual(Form.read(str(form)), form)
        self.assertEqual(form(form.layout.fill()).told, ("x",))
        self.assertEqual(error_of(TooMany, Space.of, form), "patterns")
        form = Form.read("number a\ncheck x needs a in ( " + " , ".join([str(at) for at in range(80)]) + " )")
        self.assertEqual(form({"a": 79}).told, ())
        self.assertEqual(error_of(TooMany, Space.of, form), "patterns")


class Writing(unittest.TestCase):
    """Point 18."""

    def test_written_form(self):
        layout = Layout([("low", "number"), ("color", "word")])
        needs = Condition("low>3 or color in('red','in')", layout)
        form = Form(
            layout, Check("one", needs, blames=["color", "low"]), Guard("two", needs, after=["one"]),
            Barrier("three", needs, blames=("low",), after=("two", "one")), Exit("four", needs),
            Repair("five", needs, instead={"color": "blank", "low": (-7, 2)}, blames=["color"], after=["four"]),
            Default("six", needs, instead={"color": None}),
        )
        text = "low > 3 or color in ( 'red' , 'in' )"
        self.assertEqual(str(form), "\n".join([
            "number low", "word color", f"check one needs {text} blames low , color", f"guard two needs {text} after one",
            f"barrier three needs {text} after two , one blames low", f"exit four needs {text}",
            f"repair five needs {text} instead low = -7/2 , color = 'blank' after four blames color",
            f"default six needs {text} instead color = blank",
        ]))
        self.assertEqual(Form.read(str(form)), form)

    def test_random_forms(self):
        chance = random.Random(61)
        for _ in range(200):
            plan = random_plan(chance, FIELDS, depth=2)
            form, text = made_form(plan), plan_text(plan)
            self.assertEqual(str(form), text)
            self.assertTrue(Form.read(text) == form)
            self.assertEqual(str(Form.read(text)), text)


class Reading(unittest.TestCase):

    def test_ordered_of_the_document(self):
        text = "number a\nnumber b\ncheck there needs a given and b given blames a, b\ncheck order needs a < b after there blames b"
        form = Form.read(text=text)
        self.assertEqual(str(form), ORDERED)
        self.assertEqual(form.layout, Layout([("a", "number"), ("b", "number")]))
        self.assertEqual(form["there"].blames, ("a", "b"))
        self.assertEqual(form["order"].after, ("there",))

    def test_each_kind(self):
        form = Form.read("\n".join([
            "number a", "word c", "check one needs true", "guard two needs true", "barrier three needs true", "exit four needs true",
            "repair five needs true instead a = 1", "default six needs true instead c = 'x'",
        ]))
        wanted = [Check, Guard, Barrier, Exit, Repair, Default]
        self.assertEqual([one.__class__ for one in form], wanted)
        self.assertEqual((form["five"].instead, form["six"].instead), ({"a": 1}, {"c": "x"}))

    def test_spaces_as_in_a_condition(self):
        text = "\n".join([
            "  number   a ", "word c", " repair one  needs a=3or c='x'instead c='y',a=blank blames c,a",
            "check two needs(a in(1,2))after one", "barrier x needs a<-3after one , two   blames  a  ",
        ])
        self.assertEqual(str(Form.read(text)), "\n".join([
            "number a", "word c", "repair one needs a = 3 or c = 'x' instead a = blank , c = 'y' blames a , c",
            "check two needs ( a in ( 1 , 2 ) ) after one", "barrier x needs a < -3 after one , two blames a",
        ]))

    def test_random_texts(self):
        chance = random.Random(62)
        for _ in range(120):
            plan = random_plan(chance, FIELDS)
            order = chance.sample([name for name, _ in FIELDS], 3)
            lines = [chance.choice([" ", "  "]).join(tokens) + " " * chance.randint(0, 2) for tokens in plan_lines(plan, order)]
            self.assertTrue(Form.read("\n".join(lines)) == made_form(plan))

    def test_the_name_of_a_field(self):
        self.assertEqual(Form.read("number a\ncheck a needs a given blames a\ncheck b needs true after a").names, ("a", "b"))

    def test_words_that_are_reserved_as_values(self):
        form = Form.read("word c\nrepair x needs c != 'after' instead c = 'blames'\ncheck y needs c in ( 'instead' , 'needs' ) blames c")
        self.assertEqual(form.words, ("after", "blames", "instead", "needs"))
        self.assertEqual(form["x"].instead, {"c": "blames"})

    def test_no_text(self):
        for thing in STRANGE + [ORDERED.encode(), ORDERED.split("\n"), Form.read(ORDERED)]:
            if not isinstance(thing, str):
                self.assertEqual(error_of(BadForm, Form.read, thing), -1)
        for thing in STRANGE:
            if isinstance(thing, str):
                self.assertEqual(error_of(BadForm, Form.read, thing), 0)

    def test_no_checks(self):
        for many in range(1, 6):
            self.assertEqual(wrong_line(*[f"number {name}" for name in "abcde"[:many]]), many)

    def test_empty_lines(self):
        lines = ORDERED.split("\n")
        for at in range(5):
            for empty in ("", " ", "   "):
                self.assertEqual(wrong_line(*lines[:at], empty, *lines[at:]), at)
        self.assertEqual(wrong_line(*lines, ""), 4)
        self.assertEqual(wrong_line("number a", ""), 1)
        self.assertEqual(wrong_line(""), 0)
        self.assertEqual(wrong_line("", ""), 0)

    def test_field_lines(self):
        tail = ["check x needs true"]
        for line in [
            "number", "number 3", "numbers b", "number b c", "number b, c", "number and", "number self", "number B", "word ninechars",
            "word 'b'", "Number b", "number b word c", "b number", "number a", "word a", "field b", "number b1", "number -", "given b",
        ]:
            with self.subTest(line=line):
                self.assertEqual(wrong_line("number a", line, *tail), 1)
                if line not in ("number a", "word a"):
                    self.assertEqual(wrong_line(line, *tail), 0)

    def test_too_many_lines(self):
        fields = [f"word {name}" for name in "abcde"]
        self.assertEqual(wrong_line(*fields, "word f", "check x needs true"), 5)
        self.assertEqual(wrong_line(*fields, "word f"), 5)
        self.assertEqual(len(Form.read("\n".join([*fields, "check x needs true"])).layout), 5)
        checks = [f"check {name} needs true" for name in NAMES]
        self.assertEqual(len(Form.read("\n".join(["word a", *checks]))), 8)
        self.assertEqual(wrong_line("word a", *checks, "check nine needs true"), 9)
        self.assertEqual(wrong_line("word a", *checks, "number b"), 9)

    def test_lines_at_the_wrong_place(self):
        self.assertEqual(wrong_line("check x needs true", "number a"), 0)
        self.assertEqual(wrong_line("number a", "check x needs true", "number b", "check y needs true"), 2)
        self.assertEqual(wrong_line("number a", "check x needs b given", "number b"), 1)
        self.assertEqual(wrong_line("number a", "check x needs true", "check x needs true"), 2)
        self.assertEqual(wrong_line("number a", "check x needs true", "guard x needs true"), 2)

    def test_check_lines(self):
        for line in [
            "check", "check x", "check x needs", "check needs true", "check x true", "x needs true", "check x need true",
            "check x needs true true", "checks x needs true", "Check x needs true", "check 3 needs true", "check 'x' needs true",
            "check X needs true", "check ninechars needs true", "check after needs true", "check self needs true",
            "check x , y needs true", "check x needs c given", "check x needs a = 'red'", "check x needs a = 03", "check x needs a <",
            "check x needs ( true", "check x needs true )", "check x needs true ;", "check x needs true blames", "! x needs true",
            "check x needs true after", "check x needs true blames a , a", "check x needs true blames a b", "check x needs true blames , a",
            "check x needs true blames a ,", "check x needs true blames a , , b", "check x needs true blames c",
            "check x needs true blames 3", "check x needs true blames first", "check x needs true blames a = 1",
            "check x needs true after first , first", "check x needs true after x", "check x needs true after other",
            "check x needs true after first b", "check x needs true after , first", "check x needs true after first ,",
            "check x needs true after a", "check x needs true after 'first'", "check x needs true after 3",
            "check x needs true blames a after first", "check x needs true blames a blames b",
            "check x needs true after first after first", "check x needs true after blames a", "check x needs blames a",
            "check x needs after first", "check x needs true after first blames a a", "check x needs true needs true",
            "check x needs true instead a = 1", "guard x needs true instead a = 1", "barrier x needs true instead a = 1",
            "exit x needs true instead a = 1", "repair x needs true", "default x needs true", "repair x needs true blames a",
            "guard x needs true blames a", "exit x needs true blames a", "default x needs true instead a = 1 blames a",
            "default x needs true after first blames a", "repair x needs true instead", "repair x needs true instead a",
            "repair x needs true instead a =", "repair x needs true instead a 1", "repair x needs true instead a != 1",
            "repair x needs true instead a = 1 ,", "repair x needs true instead , a = 1", "repair x needs true instead a = 1 b = 2",
            "repair x needs true instead a = 1 , a = 2", "repair x needs true instead a = 1 , a = 1", "repair x needs true instead c = 1",
            "repair x needs true instead a = 'red'", "repair x needs true instead a = b", "repair x needs true instead a = 6/2",
            "repair x needs true instead a = 03", "repair x needs true instead a = true", "repair x needs true instead a = given",
            "repair x needs true instead w = 3", "repair x needs true instead w = red", "repair x needs true instead w = 'Red'",
            "repair x needs true instead w = 'ninechars'", "repair x needs true instead w = w", "repair x needs true instead w = '",
            "repair x needs true instead a = -", "repair x needs true instead a == 1", "repair x needs true instead a = 1 = 1",
            "repair x needs true after first instead a = 1", "repair x needs true blames a instead a = 1",
            "repair x needs true instead a = 1 blames a after first", "repair x needs true instead a = 1 instead b = 1",
            "repair x instead a = 1 needs true", "repair x needs instead a = 1", "repair x needs true instead 3 = 1",
            "check first needs true", "guard first needs true", "number x", "word x", "number a", "", " ", "check x needs true\t",
            "check x needs true after second", "check x needs true # why",
        ]:
            with self.subTest(line=line):
                before = ["number a", "number b", "word w", "check first needs true"]
                self.assertEqual(wrong_line(*before, line, "check second needs true"), 4)
                self.assertEqual(wrong_line(*before, line), 4)

    def test_check_lines_that_are_right(self):
        before = ["number a", "number b", "word w", "check first needs true"]
        for line in [
            "check x needs true", "check x needs true blames b,a", "check x needs true after first", "guard x needs true after first",
            "check x needs true after first blames w", "repair x needs true instead a=1", "repair x needs true instead w='and',a=blank",
            "repair x needs true instead a = -1/2 after first blames b", "default x needs true instead w = blank after first",
            "exit x needs true after first", "barrier x needs true after first blames a",
        ]:
            with self.subTest(line=line):
                form = Form.read("\n".join([*before, line]))
                self.assertEqual(form.names, ("first", "x"))
                self.assertTrue(Form.read(str(form)) == form)

    def test_the_first_wrong_line(self):
        self.assertEqual(wrong_line("number a", "number a", "check x needs b given"), 1)
        self.assertEqual(wrong_line("number a", "check x needs b given", "number a", ""), 1)
        self.assertEqual(wrong_line("number a", "check x needs true", "check y needs false after z", "check x needs true"), 2)

    def test_random_forms_with_a_spoilt_line(self):
        chance = random.Random(63)
        for _ in range(150):
            lines = plan_lines(random_plan(chance, FIELDS))
            at = chance.randrange(len(lines))
            spoilt = list(lines[at])
            spoilt.insert(chance.randint(0, len(spoilt)), chance.choice(["6/2", "!", "needs", "A", "guard"]))
            texts = [" ".join(tokens) for tokens in [*lines[:at], spoilt, *lines[at + 1:]]]
            self.assertEqual(wrong_line(*texts), at)

    def test_a_check_that_others_come_after_is_spoilt(self):
        text = ORDERED.replace("check there", "check here")
        self.assertEqual(error_of(BadForm, Form.read, text), 3)

    def test_as_many_characters_as_allowed(self):
        long = " or ".join(["a = 1234567890"] * 100)
        text = "\n".join(["number a", *[f"check {name} needs {long}" for name in NAMES]])
        self.assertEqual(str(Form.read(text)), text)


class Demanding(unittest.TestCase):

    def refusal(self, form, filling, **named):
        try:
            self.assertIsNone(form.demand(filling, **named))
        except Refused as error:
            return error
        return None

    def test_nothing_told(self):
        form = Form.read(ORDERED)
        self.assertIsNone(form.demand({"a": 1, "b": 2}))
        self.assertIsNone(form.demand(filling={"a": 1, "b": 2}, name="order"))
        self.assertIsNone(form.demand({"a": None, "b": 2}, name="order"))
        self.assertIsNone(form.demand({"a": 2, "b": 1}, name="there"))

    def test_the_first_told(self):
        error = self.refusal(Form.read(ORDERED), {"a": 2, "b": 1})
        self.assertEqual((error.name, error.blames, error.cause), ("order", ("b",), None))
        self.assertIsNone(error.__cause__)
        self.assertIsNone(error.__context__)
        form = Form.read(ORDERED.replace(" after there", ""))
        self.assertEqual(self.refusal(form, {"a": None, "b": 1}).name, "there")
        self.assertEqual(self.refusal(form, {"a": None, "b": 1}, name="order").name, "order")

    def test_a_chain_of_causes(self):
        form = Form.read(CHAIN)
        blank = form.layout.fill()
        self.assertEqual(form(blank).told, ("two", "four"))
        error = self.refusal(form, blank, name="four")
        self.assertEqual((error.name, error.blames), ("four", ("b",)))
        inner = error.cause
        self.assertEqual((inner.name, inner.blames), ("two", ("a", "b")))
        last = inner.cause
        self.assertEqual((last.name, last.blames, last.cause), ("one", (), None))
        for one in (error, inner, last):
            self.assertIs(one.__class__, Refused)
            self.assertIs(type(one.blames), tuple)
        self.assertIs(error.__cause__, inner)
        self.assertIsNone(inner.__cause__)
        self.assertIsNone(last.__cause__)
        self.assertIsNone(inner.__context__)

    def test_default_is_the_first_told(self):
        form = Form.read(CHAIN)
        error = self.refusal(form, form.layout.fill())
        self.assertEqual((error.name, error.cause.name, error.cause.cause), ("two", "one", None))
        self.assertIs(error.__cause__, error.cause)

    def test_silent_skipped_and_met_checks(self):
        form = Form.read(CHAIN)
        for name in ("one", "three", "five", "six"):
            self.assertIsNone(form.demand(form.layout.fill(), name=name))
        self.assertIsNone(form.demand({"a": 5, "b": 3}))

    def test_wrong_arguments(self):
        form = Form.read(CHAIN)
        for thing in STRANGE + [{"a": 1}, {"a": 1, "b": 2, "c": 3}]:
            self.assertIsNone(error_of(BadFilling, form.demand, thing))
            self.assertIsNone(error_of(BadFilling, form.demand, thing, name="nocheck"))
        self.assertEqual(error_of(BadFilling, form.demand, {"b": True, "a": None}, name=7), "b")
        for thing in STRANGE + ["nocheck", ["one"], ("one",)]:
            if thing is not None:
                self.assertIs(error_of(NoCheck, form.demand, {"a": 5, "b": 3}, name=thing), thing)
                self.assertIs(error_of(NoCheck, form.demand, form.layout.fill(), name=thing), thing)
        self.assertRaises(TypeError, form.demand, form.layout.fill(), "one")

    def test_as_the_document_says(self):
        chance = random.Random(71)
        refused = 0
        for _ in range(150):
            plan = random_plan(chance, FIELDS)
            form = made_form(plan)
            filling = random_filling(chance, FIELDS)
            rows = reported(plan, filling)
            told = [row["check"]["name"] for row in rows if row["told"]]
            for name in [None, *form.names]:
                wanted = told[:1] if name is None else [one for one in told if one == name]
                found = []
                error = self.refusal(form, filling, **({} if name is None else {"name": name}))
                if error is not None:
                    self.assertIs(error.__cause__, error.cause)
                    refused += 1
                while error is not None:
                    self.assertEqual(error.blames, form[error.name].blames)
                    found.append(error.name)
                    error = error.cause
                self.assertEqual(found, trail_of(rows, wanted[0]) if wanted else [])
        self.assertGreater(refused, 100)


class OtherChecks(unittest.TestCase):

    def setUp(self):
        self.checks = [check("one"), check("two", after=["one"]), check("three", "high given", blames=["low"], after=["one"])]
        self.form = Form(LAYOUT, *self.checks)

    def test_with_check(self):
        new = Barrier("two", Condition("color given", LAYOUT), blames=["color"], after=["one"])
        changed = self.form.with_check(check=new)
        self.assertIsInstance(changed, Form)
        self.assertEqual(changed.checks, (self.checks[0], new, self.checks[2]))
        self.assertEqual(self.form.checks, tuple(self.checks))
        self.assertTrue(self.form.with_check(self.checks[1]) == self.form)
        self.assertTrue(changed.with_check(self.checks[1]) == self.form)

    def test_with_check_of_no_name(self):
        other = check("four", "true", Layout([("x", "word")]), after=["five"])
        self.assertEqual(error_of(NoCheck, self.form.with_check, other), "four")

    def test_with_a_wrong_check(self):
        layout = Layout([("low", "number")])
        for at, name in enumerate(["one", "two", "three"]):
            self.assertEqual(error_of(BadForm, self.form.with_check, check(name, "low given", layout)), at)
        self.assertEqual(error_of(BadForm, self.form.with_check, check("one", after=["two"])), 0)
        self.assertEqual(error_of(BadForm, self.form.with_check, check("two", after=["three"])), 1)
        self.assertEqual(error_of(BadForm, self.form.with_check, check("three", after=["two", "none"])), 2)
        self.assertEqual(self.form.with_check(check("three", after=["two", "one"])).names, ("one", "two", "three"))

    def test_in_order(self):
        names = ["one", "three", "two"]
        found = self.form.in_order(names=names)
        self.assertEqual(found.checks, (self.checks[0], self.checks[2], self.checks[1]))
        self.assertEqual(names, ["one", "three", "two"])
        names.pop()
        self.assertEqual(found.names, ("one", "three", "two"))
        self.assertEqual(self.form.names, ("one", "two", "three"))
        self.assertTrue(self.form.in_order(["one", "two", "three"]) == self.form)

    def test_in_the_wrong_order(self):
        for names, wanted in [
            (["two", "one", "three"], 0), (["three", "one", "two"], 0), (["three", "two", "one"], 0),
        ]:
            self.assertEqual(error_of(BadForm, self.form.in_order, names), wanted)
        form = Form(LAYOUT, check("one"), check("two"), check("three", after=["two"]))
        self.assertEqual(error_of(BadForm, form.in_order, ["one", "three", "two"]), 1)
        self.assertEqual(form.in_order(["two", "three", "one"]).names, ("two", "three", "one"))

    def test_no_list_of_the_names(self):
        wrong = [
            ("one", "two", "three"), ["one", "two"], ["one", "two", "three", "three"], ["one", "two", "two"], ["one", "two", "four"],
            ["one", "two", None], ["one", "two", ["three"]], "one", {"one": 1, "two": 2, "three": 3}, ["one", "two", "three", "four"],
            ["three", "three", "three"], [1, 2, 3], list(self.checks), ["two", "one", "four"],
        ]
        for names in wrong + STRANGE:
            self.assertEqual(error_of(BadForm, self.form.in_order, names), -1)


class Kinds(unittest.TestCase):

    def test_only_telling_kinds_tell(self):
        chance = random.Random(81)
        for _ in range(100):
            form = made_form(random_plan(chance, FIELDS))
            report = form(random_filling(chance, FIELDS))
            for name in report.told:
                self.assertIn(form[name].KIND, TELLING)
                self.assertTrue(form[name].is_telling)

    def test_errors_of_checks_do_not_come_out_of_reading(self):
        try:
            Form.read("number a\ncheck x needs true blames a , a")
        except BadForm as error:
            self.assertEqual(error.at, 1)
            self.assertNotIsInstance(error, BadCheck)


if __name__ == "__main__":
    unittest.main()
