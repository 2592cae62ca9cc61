"""mendrounds/reports.py: points 19 and 20, complaints, trails, pages and tallies."""
import random
import unittest

from mendrounds.checks import Check
from mendrounds.conditions import Condition
from mendrounds.errors import BadFilling, NoCheck, NotTold, Unlike
from mendrounds.forms import Form
from mendrounds.layouts import Layout
from mendrounds.reports import Complaint, Report, Tally
from mendrounds.spaces import Space
from plans import made_form, random_filling, random_plan, reported, trail_of
from support import STRANGE, error_of

FIELDS = (("low", "number"), ("high", "number"), ("color", "word"))
TRIP = Form.read("\n".join([
    "number since", "number until", "word class",
    "exit empty needs since given or until given or class given",
    "default basic needs class given instead class = 'cheap'",
    "check start needs since given blames since",
    "check end needs until given blames until",
    "check late needs since < until after start , end blames until",
    "repair dear needs class != 'best' or since >= 10 instead class = 'cheap' blames class , since",
    "barrier full needs class != 'cheap' or since != 7 blames since",
    "check class needs class in ( 'cheap' , 'best' ) after start blames class",
]))
ORDERED = Form.read("\n".join([
    "number a", "number b", "check there needs a given and b given blames a, b", "check order needs a < b after there blames b",
]))


def trip(since=None, until=None, **named):
    return TRIP({"since": since, "until": until, "class": named.get("kind")})


def simple(*lines):
    return Form.read("\n".join(["number a", "number b", *lines]))


def outcomes(form, **values):
    return form(form.layout.fill(**values)).outcomes


class Outcomes(unittest.TestCase):
    """Point 19."""

    def test_all_hold(self):
        report = trip(1, 2, kind="cheap")
        self.assertEqual(report.outcomes, ("holds",) * 8)
        self.assertEqual((report.told, report.blamed, report.accepted, len(report), list(report)), ((), (), True, 0, []))

    def test_an_exit_that_fails_silences_all_behind_it(self):
        report = trip()
        self.assertEqual(report.outcomes, ("fails",) + ("unread",) * 7)
        self.assertEqual((report.told, report.accepted, len(report)), ((), True, 0))

    def test_a_default_and_a_skipped_check(self):
        report = trip(until=3)
        self.assertEqual(report.outcomes, ("holds", "fails", "fails", "holds", "skipped", "holds", "fails", "unread"))
        self.assertEqual(report.told, ("start", "full"))
        self.assertEqual(report.blamed, ("since",))
        self.assertIs(report.accepted, False)

    def test_told_in_order_and_blamed_in_the_order_of_the_layout(self):
        report = trip(5, 4, kind="best")
        self.assertEqual(report.outcomes, ("holds", "holds", "holds", "holds", "fails", "fails", "holds", "holds"))
        self.assertEqual(report.told, ("late", "dear"))
        self.assertEqual(report.blamed, ("since", "until", "class"))
        report = trip(5, kind="red")
        self.assertEqual(report.told, ("end", "class"))
        self.assertEqual(report.blamed, ("until", "class"))
        for found in (report.outcomes, report.told, report.blamed):
            self.assertIs(type(found), tuple)

    def test_a_barrier(self):
        report = trip(7, 9)
        self.assertEqual(report.outcomes, ("holds", "fails", "holds", "holds", "holds", "holds", "fails", "unread"))
        self.assertEqual(report.told, ("full",))

    def test_ordered(self):
        for a, b, wanted in [
            (None, None, ("fails", "skipped")), (None, 1, ("fails", "skipped")), (1, None, ("fails", "skipped")),
            (1, 1, ("holds", "fails")), (1, 2, ("holds", "holds")), (2, 1, ("holds", "fails")),
        ]:
            self.assertEqual(outcomes(ORDERED, a=a, b=b), wanted)

    def test_unread_comes_before_skipped(self):
        form = simple("check one needs a given", "barrier two needs b given", "check three needs true after one")
        self.assertEqual(outcomes(form), ("fails", "fails", "unread"))
        self.assertEqual(outcomes(form, b=1), ("fails", "holds", "skipped"))
        self.assertEqual(outcomes(form, a=1), ("holds", "fails", "unread"))

    def test_skipped_checks_neither_stop_nor_repair(self):
        form = simple(
            "check one needs a given", "barrier two needs b given after one", "repair three needs b given instead b = 1 after one",
            "check four needs b given", "check five needs true after two",
        )
        self.assertEqual(outcomes(form), ("fails", "skipped", "skipped", "fails", "skipped"))
        self.assertEqual(outcomes(form, a=1), ("holds", "fails", "unread", "unread", "unread"))

    def test_after_a_silent_or_skipped_check(self):
        form = simple("guard one needs a given", "check two needs true after one", "check three needs true after two")
        self.assertEqual(outcomes(form), ("fails", "skipped", "skipped"))
        self.assertEqual(outcomes(form, a=1), ("holds", "holds", "holds"))
        form = simple("check one needs true", "guard two needs a given", "check three needs b given after one , two")
        self.assertEqual(outcomes(form), ("holds", "fails", "skipped"))
        self.assertEqual(outcomes(form, a=1), ("holds", "holds", "fails"))

    def test_views(self):
        form = simple(
            "repair one needs a given instead a = 1 , b = 5", "check two needs a = 1", "default three needs b != 5 instead b = blank",
            "check four needs b given",
        )
        report = form(form.layout.fill(b=2))
        self.assertEqual(report.outcomes, ("fails", "holds", "fails", "fails"))
        self.assertEqual([report.view(name) for name in form.names], [
            {"a": None, "b": 2}, {"a": 1, "b": 5}, {"a": 1, "b": 5}, {"a": 1, "b": None},
        ])
        report = form(form.layout.fill(a=0, b=2))
        self.assertEqual(report.outcomes, ("holds", "fails", "holds", "holds"))
        self.assertEqual([report.view(name) for name in form.names], [{"a": 0, "b": 2}] * 4)

    def test_views_of_skipped_and_unread_checks(self):
        report = trip(until=3)
        self.assertEqual(report.view("late"), {"since": None, "until": 3, "class": "cheap"})
        self.assertEqual(report.view("class"), {"since": None, "until": 3, "class": "cheap"})
        self.assertEqual(report.view("basic"), {"since": None, "until": 3, "class": None})

    def test_a_repair_that_is_not_read_puts_nothing_there(self):
        form = simple("default one needs a given instead a = 3", "barrier two needs b given", "repair three needs false instead a = 9",
                      "check four needs a = 3")
        report = form(form.layout.fill())
        self.assertEqual(report.outcomes, ("fails", "fails", "unread", "unread"))
        self.assertEqual(report.view("four"), {"a": 3, "b": None})
        self.assertIs(report.met("four"), True)

    def test_met(self):
        report = trip(until=3)
        self.assertEqual([report.met(name) for name in TRIP.names], [True, False, False, True, False, True, False, True])
        report = trip()
        # Behind the exit nothing is repaired, so nothing stands in for the class.
        self.assertEqual([report.met(name) for name in TRIP.names], [False, False, False, False, False, False, False, False])
        for name in TRIP.names:
            self.assertIn(report.met(name), (True, False))

    def test_as_the_document_says(self):
        chance = random.Random(31)
        seen = {}
        for _ in range(250):
            plan = random_plan(chance, FIELDS)
            form = made_form(plan)
            for filling in [random_filling(chance, FIELDS) for _ in range(8)]:
                report, rows = Report(form, filling), reported(plan, filling)
                self.assertEqual(report.outcomes, tuple([row["outcome"] for row in rows]))
                for row in rows:
                    name = row["check"]["name"]
                    self.assertEqual(report.view(name), row["view"])
                    self.assertEqual(list(report.view(name)), ["low", "high", "color"])
                    self.assertIs(report.met(name), row["met"])
                    key = (row["outcome"], row["check"]["kind"], row["cause"] is None)
                    seen[key] = seen.get(key, 0) + 1
                told = [row for row in rows if row["told"]]
                self.assertEqual(report.told, tuple([row["check"]["name"] for row in told]))
                blamed = [name for name, _ in FIELDS if [row for row in told if name in row["check"]["blames"]]]
                self.assertEqual(report.blamed, tuple(blamed))
                self.assertIs(report.accepted, not told)
        self.assertEqual(len([key for key in seen if key[0] == "fails"]), 12)

    def test_patterns_decide(self):
        """What is told of a filling depends on its pattern alone."""
        chance = random.Random(33)
        fields = (("a", "number"), ("c", "word"))
        for _ in range(60):
            form = made_form(random_plan(chance, fields, most=4))
            space = Space.of(form)
            for filling in [random_filling(chance, fields) for _ in range(15)]:
                again = form(space.fill(space.pattern_of(filling)))
                self.assertEqual((again.outcomes, again.told), (form(filling).outcomes, form(filling).told))
                self.assertEqual([one.cause for one in again], [one.cause for one in form(filling)])


class MakingAReport(unittest.TestCase):

    def test_no_filling(self):
        full = {"since": 1, "until": 2, "class": "a"}
        for thing in STRANGE + [dict(full, more=None), {"since": 1, "until": 2}, list(full)]:
            self.assertIsNone(error_of(BadFilling, Report, TRIP, thing))
            self.assertIsNone(error_of(BadFilling, TRIP, thing))
        self.assertEqual(error_of(BadFilling, Report, TRIP, {"class": 1, "until": True, "since": 1}), "until")
        self.assertEqual(error_of(BadFilling, Report, TRIP, dict(full, since=(2, 2))), "since")

    def test_form_and_filling(self):
        filling = {"class": "best", "until": 2, "since": None}
        report = Report(filling=filling, form=TRIP)
        self.assertEqual(report.form, TRIP)
        self.assertEqual(list(report.filling.items()), [("since", None), ("until", 2), ("class", "best")])
        self.assertEqual(list(filling), ["class", "until", "since"])

    def test_the_filling_is_copied(self):
        filling = {"since": 5, "until": 4, "class": "cheap"}
        report = Report(TRIP, filling)
        filling["since"] = 1
        filling["more"] = 1
        self.assertEqual(report.filling, {"since": 5, "until": 4, "class": "cheap"})
        self.assertEqual(report.view("late"), {"since": 5, "until": 4, "class": "cheap"})
        self.assertEqual(report.told, ("late",))

    def test_what_is_returned_is_new(self):
        report = trip(until=3)
        report.filling["since"] = 9
        report.view("late")["class"] = "changed"
        report.view("start").clear()
        report.trail("full").append("more")
        report.page().clear()
        list(report).clear()
        self.assertEqual(report.filling, {"since": None, "until": 3, "class": None})
        self.assertEqual(report.view("late"), {"since": None, "until": 3, "class": "cheap"})
        self.assertEqual(report.view("start"), report.view("late"))
        self.assertEqual(report.trail("full"), ["full", "basic"])
        self.assertEqual((len(report.page()), len(report)), (8, 2))

    def test_views_are_apart(self):
        report = trip(1, 2, kind="cheap")
        view = report.view("empty")
        view["since"] = 8
        self.assertEqual(report.view("late")["since"], 1)
        self.assertEqual(report.filling["since"], 1)

    def test_what_is_defined_in_report(self):
        for name in ("filling", "accepted"):
            self.assertIsInstance(vars(Report)[name], property)

    def test_equal_to_nothing_else(self):
        report = trip()
        for thing in STRANGE + [TRIP, report.filling, Tally(TRIP)]:
            self.assertFalse(report == thing)


class Complaints(unittest.TestCase):
    """Point 20."""

    def test_in_order(self):
        report = trip(until=3)
        found = list(report)
        self.assertTrue(all([isinstance(one, Complaint) for one in found]))
        self.assertEqual([(one.name, one.blames, one.cause) for one in found], [
            ("start", ("since",), None), ("full", ("since",), "basic"),
        ])
        self.assertEqual(len(report), 2)
        self.assertEqual([one.name for one in report], [one.name for one in report])

    def test_in(self):
        report = trip(until=3)
        for name in TRIP.names:
            self.assertIs(name in report, name in ("start", "full"))
        for thing in STRANGE + ["nocheck", ("start",), ["start"], list(report)[0]]:
            self.assertIs(thing in report, False)

    def test_item(self):
        report = trip(until=3)
        for name in ("start", "full"):
            self.assertEqual(report[name].name, name)
            self.assertEqual(report[name].blames, TRIP[name].blames)
        self.assertEqual((report["start"].cause, report["full"].cause), (None, "basic"))
        for name in ("empty", "basic", "late", "class"):
            self.assertEqual(error_of(NotTold, lambda: report[name]), name)
        for thing in STRANGE + ["nocheck", ("start",), ["start"], 0]:
            self.assertIs(error_of(NoCheck, lambda: report[thing]), thing)

    def test_the_last_of_several_causes(self):
        form = simple(
            "default one needs false instead a = 1", "default two needs false instead b = 1", "check three needs a = b and a = 2",
            "default four needs false instead a = 5", "check five needs a = b", "check six needs b = 2", "check seven needs false",
        )
        report = form(form.layout.fill())
        self.assertEqual({one.name: one.cause for one in report}, {"three": "two", "five": "four", "six": "two", "seven": None})

    def test_a_stand_in_that_was_replaced_is_no_longer_there(self):
        form = simple(
            "default one needs false instead a = 1 , b = 1", "default two needs a given instead a = 2",
            "default three needs a = 2 instead b = blank", "check four needs a = 3", "check five needs b given",
        )
        report = form(form.layout.fill())
        self.assertEqual(report.outcomes, ("fails", "holds", "fails", "fails", "fails"))
        self.assertEqual({one.name: one.cause for one in report}, {"four": "one", "five": "three"})
        form = simple("default one needs false instead a = 1", "default two needs false instead a = 1", "check three needs a = 3")
        self.assertEqual(form(form.layout.fill())["three"].cause, "two")

    def test_a_stand_in_that_changes_nothing_counts(self):
        form = simple("default one needs false instead a = 1 , b = blank", "check two needs a = 3", "check three needs b given")
        report = form(form.layout.fill(a=1))
        self.assertEqual([one.cause for one in report], ["one", "one"])
        report = form(form.layout.fill(a=3))
        self.assertEqual([one.cause for one in report], ["one", "one"])

    def test_a_check_that_holds_puts_nothing_there(self):
        form = simple("default one needs a given instead a = 1", "check two needs a = 3")
        self.assertIsNone(form(form.layout.fill(a=1))["two"].cause)
        self.assertEqual(form(form.layout.fill())["two"].cause, "one")

    def test_only_fields_that_the_condition_mentions(self):
        form = simple("default one needs a given instead a = 1", "check two needs b given blames a", "check three needs b given or a = 2")
        report = form(form.layout.fill())
        self.assertEqual([one.cause for one in report], [None, "one"])

    def test_a_repair_is_not_its_own_cause(self):
        form = simple("repair one needs a given instead a = 1")
        self.assertIsNone(form(form.layout.fill())["one"].cause)

    def test_as_the_document_says(self):
        chance = random.Random(41)
        longest = 0
        for _ in range(250):
            plan = random_plan(chance, FIELDS)
            form = made_form(plan)
            for filling in [random_filling(chance, FIELDS) for _ in range(6)]:
                report, rows = form(filling), reported(plan, filling)
                told = [(row["check"]["name"], form[row["check"]["name"]].blames, row["cause"]) for row in rows if row["told"]]
                self.assertEqual([(one.name, one.blames, one.cause) for one in report], told)
                self.assertEqual([(report[name].name, report[name].cause) for name in report.told], [one[::2] for one in told])
                for row in rows:
                    name = row["check"]["name"]
                    if row["outcome"] == "fails":
                        self.assertEqual(report.trail(name), trail_of(rows, name))
                        longest = max(longest, len(report.trail(name)))
                    else:
                        self.assertEqual(error_of(NotTold, report.trail, name), name)
        self.assertGreater(longest, 2)


class Trails(unittest.TestCase):

    def setUp(self):
        self.form = simple(
            "default one needs a given instead a = 1", "repair two needs a != 1 instead b = 2 blames b", "guard three needs b != 2",
            "exit four needs b = 3", "check five needs true",
        )
        self.report = self.form(self.form.layout.fill())

    def test_cause_by_cause(self):
        self.assertEqual(self.report.trail("one"), ["one"])
        self.assertEqual(self.report.trail("two"), ["two", "one"])
        self.assertEqual(self.report.trail("three"), ["three", "two", "one"])
        self.assertEqual(self.report.trail(name="four"), ["four", "two", "one"])

    def test_of_a_check_that_does_not_fail(self):
        self.assertEqual(error_of(NotTold, self.report.trail, "five"), "five")
        report = self.form(self.form.layout.fill(a=0, b=0))
        self.assertEqual(report.outcomes, ("holds", "holds", "holds", "fails", "unread"))
        for name in ("one", "two", "three", "five"):
            self.assertEqual(error_of(NotTold, report.trail, name), name)

    def test_of_no_check(self):
        for thing in STRANGE + ["nocheck", ["one"]]:
            self.assertIs(error_of(NoCheck, self.report.trail, thing), thing)
            self.assertIs(error_of(NoCheck, self.report.view, thing), thing)
            self.assertIs(error_of(NoCheck, self.report.met, thing), thing)
        self.assertEqual(self.report.view(name="one"), {"a": None, "b": None})
        self.assertIs(self.report.met(name="one"), False)


class Pages(unittest.TestCase):

    def test_of_a_report(self):
        self.assertEqual(trip(5, 4, kind="best").page(), [
            " 0 empty    holds   -", " 1 basic    holds   -", " 2 start    holds   -", " 3 end      holds   -",
            " 4 late     fails   until", " 5 dear     fails   since,class", " 6 full     holds   -", " 7 class    holds   -",
        ])
        self.assertEqual(trip(until=3).page(), [
            " 0 empty    holds   -", " 1 basic    fails   -", " 2 start    fails   since", " 3 end      holds   -",
            " 4 late     skipped -", " 5 dear     holds   -", " 6 full     fails   since", " 7 class    unread  -",
        ])

    def test_the_line_of_the_document(self):
        form = Form.read("number since\nnumber until\ncheck start needs since given\ncheck late needs since < until blames until")
        self.assertEqual(form(form.layout.fill(since=2, until=1)).page()[1], " 1 late     fails   until")

    def test_names_of_eight_letters_and_nothing_blamed(self):
        form = simple("check abcdefgh needs a given", "check x needs true blames a")
        self.assertEqual(form(form.layout.fill()).page(), [" 0 abcdefgh fails   -", " 1 x        holds   -"])


class Tallies(unittest.TestCase):

    def test_counts(self):
        tally = Tally(TRIP)
        self.assertEqual(len(tally), 0)
        same = tally
        tally += trip(until=3)
        tally += trip(until=4)
        tally += trip(5, 4)
        self.assertIs(tally, same)
        self.assertIsNone(tally.add(trip(1, 2, kind="cheap")))
        self.assertEqual(len(tally), 4)
        self.assertEqual({name: tally[name] for name in TRIP.names}, {
            "empty": 0, "basic": 0, "start": 2, "end": 0, "late": 1, "dear": 0, "full": 2, "class": 0,
        })

    def test_silent_checks_count_nothing(self):
        tally = Tally(form=TRIP)
        for _ in range(5):
            tally.add(report=trip())
        self.assertEqual((len(tally), tally["empty"], tally["basic"]), (5, 0, 0))

    def test_rows(self):
        tally = Tally(TRIP)
        self.assertEqual(tally.rows(), [(name, 0) for name in TRIP.names])
        for report in (trip(5, 4), trip(5, kind="red"), trip(kind="red"), trip(5, 4)):
            tally += report
        self.assertEqual(tally.rows(), [
            ("end", 2), ("late", 2), ("start", 1), ("class", 1), ("empty", 0), ("basic", 0), ("dear", 0), ("full", 0),
        ])
        tally.rows().clear()
        self.assertEqual(len(tally.rows()), 8)

    def test_page(self):
        tally = Tally(ORDERED)
        self.assertEqual(tally.page(), ["there         0", "order         0"])
        for _ in range(1234):
            tally += ORDERED({"a": 2, "b": 1})
        for _ in range(999):
            tally += ORDERED({"a": None, "b": 1})
        self.assertEqual(tally.page(), ["order     1,234", "there       999"])
        self.assertEqual(len(tally), 2233)
        tally.page().clear()
        self.assertEqual(len(tally.page()), 2)

    def test_page_of_wide_counts(self):
        form = simple("check abcdefgh needs false")
        tally = Tally(form)
        report = form(form.layout.fill())
        for _ in range(123456):
            tally.add(report)
        self.assertEqual(tally.page(), ["abcdefgh 123,456"])

    def test_no_check(self):
        tally = Tally(ORDERED)
        for thing in STRANGE + ["a", "nocheck", ["there"], ("there",)]:
            self.assertIs(error_of(NoCheck, lambda: tally[thing]), thing)

    def test_unlike(self):
        tally = Tally(ORDERED)
        tally += ORDERED({"a": 2, "b": 1})
        other = Form.read(str(ORDERED).replace("a < b", "a <= b"))
        report = other({"a": 2, "b": 1})
        self.assertIsNone(error_of(Unlike, tally.add, report))
        with self.assertRaises(Unlike):
            tally += report
        self.assertIsNone(error_of(Unlike, tally.add, TRIP(TRIP.layout.fill())))
        self.assertEqual((len(tally), tally["order"], tally.rows()), (1, 1, [("order", 1), ("there", 0)]))

    def test_equal_forms_count_together(self):
        tally = Tally(ORDERED)
        same = Form.read(str(ORDERED))
        tally += same({"a": 2, "b": 1})
        self.assertEqual((len(tally), tally["order"]), (1, 1))

    def test_is_not_gone_through(self):
        tally = Tally(ORDERED)
        self.assertRaises(TypeError, list, tally)
        self.assertRaises(TypeError, iter, tally)

    def test_two_tallies_share_nothing(self):
        one, other = Tally(ORDERED), Tally(ORDERED)
        one += ORDERED({"a": 2, "b": 1})
        self.assertEqual((len(other), other["order"]), (0, 0))
        self.assertFalse(one == other)

    def test_as_the_document_says(self):
        chance = random.Random(51)
        for _ in range(40):
            plan = random_plan(chance, FIELDS)
            form = made_form(plan)
            tally = Tally(form)
            wanted = {check["name"]: 0 for check in plan[1]}
            for filling in [random_filling(chance, FIELDS) for _ in range(12)]:
                tally += form(filling)
                for row in reported(plan, filling):
                    wanted[row["check"]["name"]] += row["told"]
            self.assertEqual({name: tally[name] for name in form.names}, wanted)
            self.assertEqual(tally.rows(), sorted(wanted.items(), key=lambda pair: -pair[1]))


class OtherForms(unittest.TestCase):

    def test_a_check_with_the_name_of_a_field(self):
        layout = Layout([("a", "number")])
        form = Form(layout, Check("a", Condition("a given", layout), blames=["a"]))
        report = form({"a": None})
        self.assertEqual((report.told, report.blamed, report.page()), (("a",), ("a",), [" 0 a        fails   a"]))


if __name__ == "__main__":
    unittest.main()
