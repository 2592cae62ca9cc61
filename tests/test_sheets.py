"""mendrounds/sheets.py: points 3 and 34 to 36, sheets and walks."""
import random
import unittest

from mendrounds.careful import advise
from mendrounds.errors import BadField, BadFilling, BadTelling, BadValue, Closed, Locked, Started, TooMany, Unmet
from mendrounds.forms import Form
from mendrounds.mending import is_play, mendings, rounds_of
from mendrounds.reports import Report
from mendrounds.rounds import judge
from mendrounds.sheets import Sheet, walk
from mendrounds.spaces import Space
from samples import BOTH, ORDERED, TELLINGS, TURNS, WRONG_FILLINGS, WRONG_TELLINGS, ab, fields, wide_form
from support import STRANGE, error_of
from walks import ODD_VALUES, odd_filling, worlds

WRONG_NAMES = [one for one in STRANGE if one != "a"] + ["A", ("a",), ["a"]]
WRONG_VALUES = [True, False, "x", "3", (2, 4), (1, 1), (1, 0), (True, 2), [1, 2], (1, 2, 3), {}, []]


def state(sheet):
    """All that can be asked of a sheet."""
    return (
        sheet.filling, sheet.is_closed, sheet.rounds_so_far, sheet.open_fields, sheet.seen, sheet.history(), sheet.telling,
        [sheet[name] for name in sheet.form.layout.names],
    )


def closed_sheet():
    sheet = Sheet(ORDERED, ab(1, 2))
    sheet.send()
    return sheet


def sheet_at_b():
    """A sheet of ORDERED on which b alone is open."""
    sheet = Sheet(ORDERED, ab(3, 3))
    sheet.send()
    return sheet


def put(sheet, name, value):
    sheet[name] = value


class Sheets(unittest.TestCase):
    """Points 34 and 35."""

    def test_at_first(self):
        for sheet in (Sheet(ORDERED), Sheet(ORDERED, None), Sheet(ORDERED, filling=None, telling="all")):
            self.assertEqual(state(sheet), (ab(None, None), False, 0, ("a", "b"), (), (), "all", [None, None]))
        sheet = Sheet(ORDERED, {"b": 3, "a": (1, 2)}, telling="first")
        self.assertEqual(state(sheet), (ab((1, 2), 3), False, 0, ("a", "b"), (), (), "first", [(1, 2), 3]))
        self.assertEqual(list(sheet.filling), ["a", "b"])
        self.assertEqual(sheet.form, ORDERED)
        self.assertIs(Sheet(ORDERED, ab(1, 2)).is_closed, False)

    def test_a_whole_course(self):
        sheet = Sheet(ORDERED)
        sheet["b"] = 3
        report = sheet.send()
        self.assertIsInstance(report, Report)
        self.assertEqual((report.told, report.filling), (("there",), ab(None, 3)))
        self.assertEqual((sheet.seen, sheet.open_fields, sheet.rounds_so_far, sheet.is_closed), (("there",), ("a", "b"), 1, False))
        sheet["a"] = 3
        self.assertEqual(sheet.send().told, ("order",))
        self.assertEqual((sheet.seen, sheet.open_fields, sheet.rounds_so_far, sheet.is_closed), (("order",), ("b",), 2, False))
        self.assertEqual(error_of(Locked, sheet.put, "a", 2), "a")
        sheet.put("b", (7, 2))
        self.assertTrue(sheet.send().accepted)
        self.assertEqual((sheet.seen, sheet.open_fields, sheet.rounds_so_far, sheet.is_closed), ((), (), 2, True))
        self.assertEqual(sheet.history(), (ab(None, 3), ab(3, 3), ab(3, (7, 2))))
        self.assertTrue(is_play(ORDERED, sheet.history()))
        self.assertEqual(rounds_of(ORDERED, sheet.history()), 2)

    def test_the_first_telling(self):
        sheet = Sheet(BOTH, ab(None, 3), telling="first")
        self.assertEqual(sheet.send().told, ("there", "order"))
        self.assertEqual((sheet.seen, sheet.open_fields), (("there",), ("a", "b")))
        sheet["a"] = 5
        self.assertEqual(sheet.send().told, ("order",))
        self.assertEqual((sheet.seen, sheet.open_fields), (("order",), ("b",)))
        self.assertTrue(is_play(BOTH, sheet.history(), telling="first"))
        self.assertFalse(is_play(BOTH, sheet.history()))

    def test_only_what_seen_checks_blame_is_open(self):
        form = Form.read("\n".join([
            "number a", "number b", "number c", "check one needs a > 0 blames c , a", "check two needs b > 0 blames b", "check three needs c > 0",
        ]))
        for telling, seen, is_open in [("all", ("one", "two", "three"), ("a", "b", "c")), ("first", ("one",), ("a", "c"))]:
            sheet = Sheet(form, telling=telling)
            sheet.send()
            self.assertEqual((sheet.seen, sheet.open_fields), (seen, is_open))
        sheet = Sheet(form, {"a": 1, "b": 1, "c": 0})
        sheet.send()
        self.assertEqual((sheet.seen, sheet.open_fields), (("three",), ()))
        self.assertEqual(sheet.is_closed, False)
        self.assertEqual(error_of(Locked, sheet.put, "c", 1), "c")
        self.assertEqual(error_of(Unmet, sheet.send), ("three",))

    def test_a_refused_sending_changes_nothing(self):
        sheet = Sheet(BOTH, ab(None, 3))
        sheet.send()
        before = state(sheet)
        self.assertEqual(error_of(Unmet, sheet.send), ("there", "order"))
        self.assertEqual(state(sheet), before)
        sheet["a"] = 5
        before = state(sheet)
        self.assertEqual(error_of(Unmet, sheet.send), ("order",))
        self.assertEqual(state(sheet), before)
        sheet.change([("a", None), ("b", None)])
        self.assertEqual(error_of(Unmet, sheet.send), ("there", "order"))
        sheet.change([("a", 1), ("b", 2)])
        self.assertTrue(sheet.send().accepted)
        self.assertEqual(sheet.history(), (ab(None, 3), ab(1, 2)))
        self.assertEqual(sheet.rounds_so_far, 1)

    def test_a_seen_check_that_is_skipped_now_must_be_met_too(self):
        form = fields("guard plain needs a != 5", "check high needs b > 0 after plain blames a , b")
        sheet = Sheet(form, ab(1, -1))
        sheet.send()
        sheet["a"] = 5
        self.assertEqual(error_of(Unmet, sheet.send), ("high",))
        sheet["b"] = 1
        self.assertTrue(sheet.send().accepted)

    def test_a_filling_that_is_let_through_closes_the_sheet(self):
        sheet = closed_sheet()
        self.assertEqual(state(sheet), (ab(1, 2), True, 0, (), (), (ab(1, 2),), "all", [1, 2]))
        self.assertIsNone(error_of(Closed, sheet.send))
        self.assertIsNone(error_of(Closed, sheet.back))

    def test_back(self):
        sheet = Sheet(ORDERED, ab(7, 3))
        sheet.change([("a", 1), ("b", None)])
        self.assertIsNone(sheet.back())
        self.assertEqual(sheet.filling, ab(7, 3))
        sheet["a"] = None
        sheet.send()
        sheet.change([("a", 4), ("b", 4)])
        sheet.back()
        self.assertEqual(sheet.filling, ab(None, 3))
        self.assertEqual(error_of(Unmet, sheet.send), ("there",))
        sheet["a"] = 3
        sheet["b"] = 3
        sheet.send()
        sheet["b"] = 2
        error_of(Unmet, sheet.send)
        sheet.back()
        self.assertEqual((sheet.filling, sheet.open_fields, len(sheet.history())), (ab(3, 3), ("b",), 2))

    def test_what_is_passed_and_returned_is_not_shared(self):
        filling = {"b": 3, "a": 3}
        sheet = Sheet(ORDERED, filling)
        filling["a"] = 1
        self.assertEqual(sheet.filling, ab(3, 3))
        sheet.filling["a"] = 1
        self.assertEqual(sheet["a"], 3)
        report = sheet.send()
        sheet.history()[0]["a"] = "changed"
        sheet["b"] = 4
        self.assertEqual((report.filling, sheet.history()), (ab(3, 3), (ab(3, 3),)))
        pairs = [("b", 5)]
        sheet.change(pairs)
        pairs.append(("b", 6))
        self.assertEqual((sheet["b"], pairs), (5, [("b", 5), ("b", 6)]))
        self.assertIs(type(sheet.history()), tuple)
        other = Sheet(ORDERED)
        other["a"] = 1
        self.assertEqual(Sheet(ORDERED).filling, ab(None, None))

    def test_sheets_are_not_gone_through(self):
        with self.assertRaises(TypeError):
            list(Sheet(ORDERED))

    def test_forms_with_many_patterns(self):
        sheet = Sheet(wide_form(80))
        self.assertEqual(sheet.send().told, ("some",))
        sheet["n"] = 79
        self.assertTrue(sheet.send().accepted)
        self.assertTrue(is_play(wide_form(80), sheet.history()))


class Putting(unittest.TestCase):

    def test_both_ways(self):
        sheet = Sheet(Form.read("number a\nword b\ncheck no needs false"))
        self.assertIsNone(sheet.put("a", 3))
        self.assertIsNone(sheet.put(value="and", name="b"))
        self.assertEqual(sheet.filling, {"a": 3, "b": "and"})
        sheet["a"] = None
        sheet["b"] = "red"
        self.assertEqual((sheet["a"], sheet["b"]), (None, "red"))
        self.assertEqual(error_of(BadValue, put, sheet, "b", 3), "b")
        self.assertEqual(error_of(BadValue, put, sheet, "b", "abcdefghi"), "b")

    def test_wrong_names_and_values(self):
        for sheet in (Sheet(ORDERED), sheet_at_b()):
            before = state(sheet)
            for wrong in WRONG_NAMES:
                self.assertIs(error_of(BadField, sheet.put, wrong, 3), wrong)
                self.assertIs(error_of(BadField, sheet.put, wrong, "x"), wrong)
                self.assertIs(error_of(BadField, put, sheet, wrong, None), wrong)
                self.assertIs(error_of(BadField, lambda one=wrong: sheet[one]), wrong)
                self.assertIs(error_of(BadField, sheet.change, [("b", 4), (wrong, 3)]), wrong)
            for wrong in WRONG_VALUES:
                for name in ("a", "b"):
                    self.assertEqual(error_of(BadValue, sheet.put, name, wrong), name)
                    self.assertEqual(error_of(BadValue, put, sheet, name, wrong), name)
                    self.assertEqual(error_of(BadValue, sheet.change, [("b", 4), (name, wrong)]), name)
            self.assertEqual(state(sheet), before)

    def test_locked_also_if_nothing_would_change(self):
        sheet = sheet_at_b()
        before = state(sheet)
        for value in (3, 4, None, (1, 2)):
            self.assertEqual(error_of(Locked, sheet.put, "a", value), "a")
            self.assertEqual(error_of(Locked, put, sheet, "a", value), "a")
            self.assertEqual(error_of(Locked, sheet.change, [("b", 4), ("a", value)]), "a")
        self.assertEqual(state(sheet), before)

    def test_closed_comes_first(self):
        sheet = closed_sheet()
        before = state(sheet)
        for name, value in [("a", 1), ("c", 1), ("a", "x"), (None, None)]:
            self.assertIsNone(error_of(Closed, sheet.put, name, value))
            self.assertIsNone(error_of(Closed, put, sheet, name, value))
            self.assertIsNone(error_of(Closed, sheet.change, [(name, value)]))
        self.assertIsNone(error_of(Closed, sheet.change, []))
        self.assertEqual(error_of(BadField, lambda: sheet["c"]), "c")
        self.assertEqual(state(sheet), before)

    def test_change(self):
        sheet = Sheet(ORDERED)
        self.assertIsNone(sheet.change([]))
        self.assertEqual(sheet.filling, ab(None, None))
        self.assertIsNone(sheet.change(pairs=[("b", 2), ("a", 1), ("b", 3)]))
        self.assertEqual(sheet.filling, ab(1, 3))
        self.assertEqual(error_of(BadValue, sheet.change, [("a", 5), ("b", "x"), ("c", 1)]), "b")
        self.assertEqual(error_of(BadField, sheet.change, [("a", 5), ("c", "x"), ("b", "x")]), "c")
        self.assertEqual(sheet.filling, ab(1, 3))
        sheet = sheet_at_b()
        self.assertEqual(error_of(Locked, sheet.change, [("b", 5), ("a", 1), ("c", 1)]), "a")
        sheet.change([("b", 1), ("b", 5)])
        self.assertEqual(sheet.filling, ab(3, 5))
        self.assertTrue(sheet.send().accepted)


class Telling(unittest.TestCase):

    def test_both_ways(self):
        sheet = Sheet(BOTH, ab(None, 3))
        sheet.telling = "first"
        self.assertEqual(sheet.telling, "first")
        self.assertIsNone(sheet.tell("all"))
        self.assertEqual(sheet.telling, "all")
        self.assertIsNone(sheet.tell(telling="first"))
        sheet.send()
        self.assertEqual(sheet.seen, ("there",))

    def test_started(self):
        sheet = sheet_at_b()
        for sheet in (sheet_at_b(), closed_sheet()):
            before = state(sheet)
            for telling in TELLINGS:
                self.assertIsNone(error_of(Started, sheet.tell, telling))
                self.assertIsNone(error_of(Started, self.assign, sheet, telling))
            for wrong in WRONG_TELLINGS:
                self.assertEqual(error_of(BadTelling, sheet.tell, wrong), wrong)
                self.assertEqual(error_of(BadTelling, self.assign, sheet, wrong), wrong)
            self.assertEqual(state(sheet), before)

    def assign(self, sheet, telling):
        sheet.telling = telling

    def test_wrong_inputs(self):
        sheet = Sheet(ORDERED)
        for wrong in WRONG_TELLINGS:
            self.assertEqual(error_of(BadTelling, sheet.tell, wrong), wrong)
            self.assertEqual(error_of(BadTelling, self.assign, sheet, wrong), wrong)
            self.assertEqual(error_of(BadTelling, Sheet, ORDERED, 3, telling=wrong), wrong)
        self.assertEqual(sheet.telling, "all")
        for wrong, held in WRONG_FILLINGS:
            if wrong is not None:
                self.assertEqual(error_of(BadFilling, Sheet, ORDERED, wrong), held)
        self.assertEqual(Sheet(telling="first", filling=ab(1, 2), form=ORDERED).filling, ab(1, 2))


class Model:
    """Point 34 by its words, with what a world says of fillings."""

    def __init__(self, world, filling, telling):
        self.world, self.telling, self.start, self.filling = world, telling, dict(filling), dict(filling)
        self.sent = []

    def closed(self):
        return bool(self.sent) and not self.world.told(self.sent[-1])

    def seen(self):
        return self.world.seen(self.sent[-1], self.telling) if self.sent else []

    def free(self):
        if not self.sent:
            return list(self.world.names)
        return [name for name in self.world.names if name in self.world.blamed(self.seen())]

    def put(self, name, value):
        if self.closed():
            return Closed
        if name not in self.free():
            return Locked
        self.filling[name] = value
        return None

    def send(self):
        if self.closed():
            return Closed
        if not self.world.meets(self.filling, self.seen()):
            return Unmet
        self.sent.append(dict(self.filling))
        return None

    def back(self):
        if self.closed():
            return Closed
        self.filling = dict(self.sent[-1] if self.sent else self.start)
        return None


class Courses(unittest.TestCase):
    """Points 3, 34 and 35."""

    def compare(self, sheet, model):
        rounds = len([one for one in model.sent if model.world.told(one)])
        wanted = (
            model.filling, model.closed(), rounds, tuple(model.free()), tuple(model.seen()), tuple(model.sent), model.telling,
            [model.filling[name] for name in model.world.names],
        )
        self.assertEqual(state(sheet), wanted)
        if model.sent:
            self.assertTrue(model.world.is_play(model.sent, model.telling))
            self.assertTrue(is_play(sheet.form, sheet.history(), telling=sheet.telling))
            self.assertEqual(rounds_of(sheet.form, sheet.history()), sheet.rounds_so_far)

    def outcome(self, call, *given):
        try:
            call(*given)
        except (Closed, Locked, Unmet) as error:
            return error.__class__
        return None

    def test_random_courses(self):
        chance = random.Random(71)
        sent = []
        for world in worlds(71, 250):
            telling = chance.choice(TELLINGS)
            filling = odd_filling(chance, world)
            sheet, model = Sheet(world.form, filling, telling=telling), Model(world, filling, telling)
            for _ in range(25):
                self.step(chance, sheet, model)
                self.compare(sheet, model)
            sent.append(len(model.sent))
        self.assertGreater(len([many for many in sent if many > 1]), 25)
        self.assertGreater(len([many for many in sent if many > 2]), 3)

    def step(self, chance, sheet, model):
        what = chance.choice(["put", "put", "mend", "send", "send", "back"])
        if what == "put":
            name = chance.choice(model.world.names)
            value = chance.choice(ODD_VALUES[sheet.form.layout.kind(name)])
            self.assertEqual(self.outcome(sheet.put, name, value), model.put(name, value))
        elif what == "mend" and model.sent:
            nexts = list(model.world.mendings(model.sent[-1], model.telling).values())
            if nexts:
                pairs = [(name, value) for name, value in chance.choice(nexts).items() if name in model.free()]
                self.assertEqual(self.outcome(sheet.change, pairs), ([model.put(*pair) for pair in pairs] + [None])[0])
        elif what == "send":
            self.assertEqual(self.outcome(sheet.send), model.send())
        elif what == "back":
            self.assertEqual(self.outcome(sheet.back), model.back())

    def go_through(self, form, play, telling):
        """Point 3: every play can be gone through with a sheet."""
        sheet = Sheet(form, play[0], telling=telling)
        sheet.send()
        for one in play[1:]:
            sheet.change([(name, one[name]) for name in sheet.open_fields])
            sheet.send()
        self.assertEqual(sheet.history(), play)
        self.assertEqual(sheet.rounds_so_far, rounds_of(form, play))
        self.assertEqual(sheet.is_closed, form(play[-1]).accepted)

    def test_plays_of_verdicts_and_advices(self):
        chance = random.Random(72)
        many = 0
        for world in worlds(72, 60):
            for telling in TELLINGS:
                verdict, advice = judge(world.form, telling=telling), advise(world.form, telling=telling)
                self.go_through(world.form, verdict.longest(), telling)
                for filling in [odd_filling(chance, world) for _ in range(3)]:
                    for play in (verdict.play(filling), advice.play(filling), verdict.endure(filling, 2), verdict.endure(filling, 30)):
                        if play is not None:
                            self.go_through(world.form, play, telling)
                            many += len(play) > 1
        self.assertGreater(many, 100)

    def test_plays_without_end(self):
        for play in (judge(TURNS).endure(ab(1, 2), 200), judge(TURNS).longest()):
            self.go_through(TURNS, play, "all")
        self.go_through(ORDERED, judge(ORDERED).longest(), "first")


class Walks(unittest.TestCase):
    """Point 36."""

    def test_picks(self):
        patterns = list(Space.of(ORDERED).each())
        for pick, at in [(0, 3), (1, 4), (2, 5), (3, 3), (-1, 5), (-3, 3), (-4, 5), (10 ** 200, 4), (-(10 ** 200), 5), (301, 4)]:
            play = walk(ORDERED, ab(None, 3), [pick])
            self.assertEqual((len(play), play[0]), (2, ab(None, 3)))
            self.assertEqual(Space.of(ORDERED).pattern_of(play[1]), patterns[at])
            self.assertTrue(is_play(ORDERED, play))
            self.assertIs(type(play), tuple)

    def test_none_and_more_than_are_needed(self):
        self.assertEqual(walk(ORDERED, {"b": 3, "a": None}, []), (ab(None, 3),))
        self.assertEqual(list(walk(ORDERED, {"b": 3, "a": None}, [])[0]), ["a", "b"])
        self.assertEqual(walk(ORDERED, ab(1, 2), [0, 1, 2]), (ab(1, 2),))
        self.assertEqual(walk(TURNS, ab(None, 3), [0, 1, 2]), (ab(None, 3),))
        play = walk(ORDERED, ab(None, 3), [0] + [5] * 100)
        self.assertEqual((len(play), rounds_of(ORDERED, play)), (3, 2))
        play = walk(TURNS, ab(1, 2), [7] * 200)
        self.assertEqual((len(play), rounds_of(TURNS, play), is_play(TURNS, play)), (201, 201, True))

    def test_the_telling(self):
        self.assertEqual(len(walk(BOTH, ab(None, 3), [0, 0])), 2)
        play = walk(BOTH, ab(None, 3), [0, 0], telling="first")
        self.assertEqual(len(play), 3)
        self.assertTrue(is_play(BOTH, play, telling="first"))

    def test_random_walks(self):
        chance = random.Random(73)
        steps = 0
        for world in worlds(73, 160):
            for telling in TELLINGS:
                picks = [chance.randint(-50, 50) for _ in range(chance.randint(0, 6))]
                filling = odd_filling(chance, world)
                play = walk(world.form, filling, picks, telling=telling)
                self.assertEqual(play[0], filling)
                self.assertTrue(world.is_play(play, telling))
                for pick, one, other in zip(picks, play, play[1:]):
                    patterns = sorted(world.mendings(one, telling))
                    self.assertEqual(world.pattern(other), patterns[pick % len(patterns)])
                    self.assertEqual(patterns, list(mendings(world.form, one, telling=telling)))
                if len(play) <= len(picks):
                    self.assertEqual(world.mendings(play[-1], telling), {})
                self.assertLessEqual(len(play), len(picks) + 1)
                steps += len(play) - 1
        self.assertGreater(steps, 80)

    def test_wrong_inputs(self):
        for wrong in WRONG_TELLINGS:
            self.assertEqual(error_of(BadTelling, walk, wide_form(80), 3, [], telling=wrong), wrong)
        for wrong, held in WRONG_FILLINGS:
            self.assertEqual(error_of(BadFilling, walk, ORDERED, wrong, [0]), held)
        self.assertEqual(error_of(BadFilling, walk, wide_form(80), {"n": "x"}, []), "n")
        for picks in ([], [0]):
            for value in (None, 3):
                self.assertEqual(error_of(TooMany, walk, wide_form(80), {"n": value}, picks), "patterns")
        self.assertEqual(len(walk(wide_form(79), {"n": None}, [-1])), 2)
        picks = [1, 2]
        self.assertEqual(len(walk(telling="first", picks=picks, filling=ab(None, 3), form=ORDERED)), 2)
        self.assertEqual(picks, [1, 2])


if __name__ == "__main__":
    unittest.main()
