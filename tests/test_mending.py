"""mendrounds/mending.py: points 21 to 23, what is seen, mendings, dead ends and plays."""
import random
import unittest

from mendrounds.errors import BadFilling, BadPattern, BadTelling, NoFilling, TooMany
from mendrounds.forms import Form
from mendrounds.mending import dead_end, is_mending, is_play, mend, mendings, rounds_of, seen
from mendrounds.spaces import Space
from samples import BOTH, ORDERED, TELLINGS, TURNS, WRONG_FILLINGS, WRONG_TELLINGS, ab, fields, wide_form
from support import STRANGE, error_of
from walks import odd_filling, same_pattern, worlds


class Seeing(unittest.TestCase):
    """Point 21."""

    def test_all_or_the_first(self):
        self.assertEqual(seen(BOTH, ab(None, 3)), ("there", "order"))
        self.assertEqual(seen(BOTH, ab(None, 3), telling="all"), ("there", "order"))
        self.assertEqual(seen(BOTH, ab(None, 3), telling="first"), ("there",))
        self.assertEqual(seen(BOTH, ab(3, 3), telling="first"), ("order",))
        self.assertEqual(seen(ORDERED, ab(None, 3)), ("there",))

    def test_nothing_is_seen_when_it_is_let_through(self):
        for telling in TELLINGS:
            self.assertEqual(seen(BOTH, ab(1, 2), telling=telling), ())

    def test_silent_checks_are_not_seen(self):
        form = fields("guard big needs a > 9", "default zero needs b given instead b = 0", "exit none needs a given", "check one needs a > 1")
        self.assertEqual(seen(form, ab(0, None)), ("one",))
        self.assertEqual(seen(form, ab(0, None), telling="first"), ("one",))
        self.assertEqual(seen(form, ab(None, None)), ())

    def test_what_is_told_of_random_forms(self):
        chance = random.Random(21)
        for world in worlds(21, 60):
            for _ in range(6):
                filling = odd_filling(chance, world)
                for telling in TELLINGS:
                    found = seen(world.form, filling, telling=telling)
                    self.assertIs(type(found), tuple)
                    self.assertEqual(list(found), world.seen(filling, telling))

    def test_wrong_inputs(self):
        for wrong, held in WRONG_FILLINGS:
            self.assertEqual(error_of(BadFilling, seen, ORDERED, wrong), held)
        for wrong in WRONG_TELLINGS:
            self.assertEqual(error_of(BadTelling, seen, ORDERED, None, telling=wrong), wrong)
        self.assertEqual(seen(telling="first", filling=ab(3, 3), form=ORDERED), ("order",))

    def test_no_space_is_needed(self):
        self.assertEqual(seen(wide_form(80), {"n": 200}), ("some",))


class Mending(unittest.TestCase):
    """Point 22."""

    def test_ordinary_ones(self):
        self.assertTrue(is_mending(ORDERED, ab(None, 3), ab(5, 3)))
        self.assertTrue(is_mending(ORDERED, ab(None, None), ab(5, 5)))
        self.assertTrue(is_mending(ORDERED, ab(5, 3), ab(5, (11, 2))))
        self.assertFalse(is_mending(ORDERED, ab(None, 3), ab(None, 4)))

    def test_only_blamed_fields_differ(self):
        self.assertFalse(is_mending(ORDERED, ab(5, 3), ab(2, 3)))
        self.assertFalse(is_mending(ORDERED, ab(5, 3), ab(6, 7)))
        self.assertFalse(is_mending(ORDERED, ab(5, 3), ab(None, 7)))
        self.assertTrue(is_mending(ORDERED, ab((5, 2), 2), ab((5, 2), 3)))
        self.assertFalse(is_mending(ORDERED, ab(1, 0), ab(10 ** 200, 10 ** 201)))

    def test_every_seen_check_is_met_and_by_first_only_the_first(self):
        self.assertFalse(is_mending(BOTH, ab(None, 3), ab(5, 3)))
        self.assertTrue(is_mending(BOTH, ab(None, 3), ab(5, 3), telling="first"))
        self.assertTrue(is_mending(BOTH, ab(None, 3), ab(5, 6)))
        self.assertFalse(is_mending(TURNS, ab(1, 1), ab(2, 1)))
        self.assertTrue(is_mending(TURNS, ab(1, 1), ab(2, 1), telling="first"))
        self.assertFalse(is_mending(TURNS, ab(1, 1), ab(1, 0), telling="first"))

    def test_what_was_not_told_need_not_be_met(self):
        self.assertTrue(is_mending(ORDERED, ab(None, 3), ab(3, 3)))
        form = fields("check one needs a > 0 blames a, b", "check two needs b > 0 blames b")
        self.assertTrue(is_mending(form, ab(0, 1), ab(1, -1)))

    def test_a_filling_is_never_one_of_itself(self):
        for form in (ORDERED, BOTH, TURNS):
            for filling in (ab(1, 2), ab(3, 3), ab(None, None), ab(3, 1)):
                for telling in TELLINGS:
                    self.assertFalse(is_mending(form, filling, filling, telling=telling))
                    self.assertFalse(is_mending(form, filling, dict(filling), telling=telling))

    def test_none_of_a_filling_that_is_let_through(self):
        for other in (ab(1, 2), ab(1, 3), ab(0, 2), ab(None, None)):
            for telling in TELLINGS:
                self.assertFalse(is_mending(ORDERED, ab(1, 2), other, telling=telling))

    def test_a_check_that_is_skipped_or_unread_there_must_be_met_too(self):
        for line in ("guard plain needs a != 5", "exit plain needs a != 5"):
            form = fields(line, "check high needs b > 0 after plain blames a, b")
            self.assertEqual(form(ab(5, -1)).told, ())
            self.assertFalse(is_mending(form, ab(1, -1), ab(5, -1)))
            self.assertTrue(is_mending(form, ab(1, -1), ab(5, 1)))
            self.assertEqual([form(ab(5, 1)).outcomes[1] in ("skipped", "unread")], [True])

    def test_a_check_is_met_by_its_view(self):
        form = fields("default one needs a given instead a = 3 , b = 7", "check equal needs a = b blames a")
        self.assertFalse(is_mending(form, ab(1, 7), ab(3, 7)))
        self.assertTrue(is_mending(form, ab(1, 7), ab(7, 7)))
        form = fields("default one needs a given instead a = 3", "check three needs a = b blames a")
        self.assertTrue(is_mending(form, ab(1, 3), ab(None, 3)))
        self.assertFalse(is_mending(form, ab(1, 4), ab(None, 4)))

    def test_a_check_that_blames_nothing_has_no_mendings(self):
        form = fields("check one needs a > 0", "check two needs b > 0 blames b")
        self.assertFalse(is_mending(form, ab(0, 0), ab(1, 1)))
        self.assertFalse(is_mending(form, ab(0, 0), ab(0, 1)))
        self.assertEqual(list(mendings(form, ab(0, 0))), [])
        other = fields("check one needs a > 0", "check two needs b > 0 blames a , b")
        self.assertTrue(is_mending(other, ab(0, 0), ab(1, 1)))
        self.assertFalse(is_mending(other, ab(0, 0), ab(1, 1), telling="first"))

    def test_random_ones(self):
        chance = random.Random(22)
        found = []
        for world in worlds(22, 80):
            for _ in range(5):
                filling = odd_filling(chance, world)
                for other in [odd_filling(chance, world), *chance.sample(world.with_others(filling, set(world.names)), 2)]:
                    for telling in TELLINGS:
                        wanted = world.is_mending(filling, other, telling)
                        self.assertIs(is_mending(world.form, filling, other, telling=telling), wanted)
                        found.append(wanted)
        self.assertGreater(found.count(True), 50)

    def test_wrong_inputs(self):
        for wrong, held in WRONG_FILLINGS:
            self.assertEqual(error_of(BadFilling, is_mending, ORDERED, wrong, ab(1, 2)), held)
            self.assertEqual(error_of(BadFilling, is_mending, ORDERED, ab(1, 2), wrong), held)
            self.assertEqual(error_of(BadFilling, is_mending, ORDERED, wrong, {"a": "x", "b": 0}), held)
            self.assertEqual(error_of(BadTelling, is_mending, ORDERED, wrong, wrong, telling="none"), "none")
        for wrong in WRONG_TELLINGS:
            self.assertEqual(error_of(BadTelling, is_mending, ORDERED, ab(1, 2), None, telling=wrong), wrong)
        self.assertTrue(is_mending(telling="all", other=ab(5, 6), filling=ab(5, 3), form=ORDERED))

    def test_no_space_is_needed(self):
        self.assertTrue(is_mending(wide_form(80), {"n": 200}, {"n": 3}))


class Patterns(unittest.TestCase):
    """Points 22 and 26: the patterns of the mendings, and a mending of each."""

    def test_ordered(self):
        patterns = list(Space.of(ORDERED).each())
        self.assertEqual(list(mendings(ORDERED, ab(None, 3))), patterns[3:])
        self.assertEqual(list(mendings(ORDERED, ab(3, 3))), [patterns[4]])
        self.assertEqual(list(mendings(ORDERED, ab(4, 3))), [patterns[4]])
        self.assertEqual(list(mendings(ORDERED, ab(3, 4))), [])
        self.assertEqual(list(mendings(BOTH, ab(None, 3))), [patterns[4]])
        self.assertEqual(list(mendings(BOTH, ab(None, 3), telling="first")), patterns[3:])
        self.assertEqual(list(mendings(TURNS, ab(None, 3))), [])
        self.assertEqual(list(mendings(TURNS, ab(None, 3), telling="first")), [patterns[5]])

    def test_it_is_a_generator(self):
        for filling in (ab(None, 3), ab(3, 4)):
            found = mendings(ORDERED, filling)
            self.assertIs(iter(found), found)
        found = mendings(ORDERED, ab(None, 3))
        self.assertEqual(next(found), ((0, 0), (0, 0)))
        self.assertEqual(len(list(found)), 2)
        self.assertEqual(list(found), [])

    def test_the_same_as_by_trying_fillings(self):
        chance = random.Random(26)
        many = 0
        for world in worlds(26, 70) + worlds(27, 3, (("a", "number"), ("b", "number"), ("c", "number"))):
            for _ in range(4):
                filling = odd_filling(chance, world)
                for telling in TELLINGS:
                    wanted = world.mendings(filling, telling)
                    found = list(mendings(world.form, filling, telling=telling))
                    self.assertEqual(found, sorted(wanted))
                    many += len(found)
                    self.check_mends(world, filling, telling, wanted)
        self.assertGreater(many, 400)

    def check_mends(self, world, filling, telling, wanted):
        """That there is a mending of just these patterns."""
        for pattern in Space.of(world.form).each():
            before = dict(filling)
            if pattern in wanted:
                found = mend(world.form, filling, pattern, telling=telling)
                self.assertTrue(world.is_mending(filling, found, telling))
                self.assertEqual((list(found), world.pattern(found)), (world.names, pattern))
            else:
                self.assertEqual(error_of(NoFilling, mend, world.form, filling, pattern, telling=telling), pattern)
            self.assertEqual(filling, before)

    def test_only_the_pattern_matters(self):
        chance = random.Random(28)
        for world in worlds(29, 40):
            filling = odd_filling(chance, world)
            other = same_pattern(chance, world, filling)
            for telling in TELLINGS:
                found = list(mendings(world.form, filling, telling=telling))
                self.assertEqual(list(mendings(world.form, other, telling=telling)), found)

    def test_errors_of_mendings(self):
        def patterns(*given, **named):
            return list(mendings(*given, **named))

        for wrong, held in WRONG_FILLINGS:
            self.assertEqual(error_of(BadFilling, patterns, ORDERED, wrong), held)
            self.assertEqual(error_of(BadTelling, patterns, ORDERED, wrong, telling=held), held)
        self.assertEqual(error_of(BadFilling, patterns, wide_form(80), {"n": "x"}), "n")
        for filling in ({"n": 3}, {"n": None}):
            self.assertEqual(error_of(TooMany, patterns, wide_form(80), filling), "patterns")
        self.assertEqual(error_of(TooMany, patterns, wide_form(80, blamed=False), {"n": None}), "patterns")
        self.assertEqual(error_of(BadTelling, patterns, wide_form(80), {"n": 3}, telling=None), None)
        self.assertEqual(len(patterns(wide_form(79), {"n": None})), 79)
        self.assertEqual(patterns(telling="first", filling=ab(4, 3), form=ORDERED), [((0, 0), (0, 1))])


class Mend(unittest.TestCase):

    def test_what_stays_keeps_its_value(self):
        for value in (3, (-7, 2), 10 ** 250, (10 ** 250 + 1, 10 ** 250), None):
            form = fields("check order needs a < b or a = 0 blames b")
            filling = ab(value, None)
            for pattern in mendings(form, filling):
                found = mend(form, filling, pattern)
                self.assertEqual(found["a"], value)
                self.assertEqual(Space.of(form).pattern_of(found), pattern)

    def test_numbers_between(self):
        form = Form.read("number a\nnumber b\nnumber c\ncheck amid needs a < b and b < c or a = c blames b")
        filling = {"a": (1, 3), "b": None, "c": (1, 2)}
        found = mend(form, filling, list(mendings(form, filling))[0])
        self.assertTrue(is_mending(form, filling, found))
        self.assertEqual((found["a"], found["c"]), ((1, 3), (1, 2)))

    def test_words(self):
        form = Form.read("word a\nword b\ncheck same needs a = b and a != 'red' blames b")
        for word in ("blank", "a", "zzzzzzzz"):
            self.assertEqual(mend(form, {"a": word, "b": "red"}, ((1, 0), (1, 0))), {"a": word, "b": word})

    def test_what_no_mending_has(self):
        patterns = list(Space.of(ORDERED).each())
        for filling in (ab(1, 2), ab(3, 3), ab(None, None)):
            own = Space.of(ORDERED).pattern_of(filling)
            self.assertEqual(error_of(NoFilling, mend, ORDERED, filling, own), own)
        for pattern in patterns:
            self.assertEqual(error_of(NoFilling, mend, ORDERED, ab(1, 2), pattern), pattern)
        self.assertEqual(error_of(NoFilling, mend, ORDERED, ab(3, 3), patterns[5]), patterns[5])
        self.assertEqual(error_of(NoFilling, mend, ORDERED, ab(3, None), patterns[1]), patterns[1])

    def test_what_is_no_pattern(self):
        for wrong in STRANGE + [((), (), ()), ((0, 0),), [(0, 0), (0, 0)], ((0, 0), (0, 2)), ((0, False), ()), ((0, 1), (0, 1))]:
            if wrong == ((), ()):
                continue
            for filling in (ab(1, 2), ab(3, 3)):
                self.assertIs(error_of(BadPattern, mend, ORDERED, filling, wrong), wrong)

    def test_the_order_of_errors(self):
        wide = wide_form(80)
        self.assertEqual(error_of(BadTelling, mend, wide, None, None, telling=0), 0)
        for wrong, held in WRONG_FILLINGS:
            self.assertEqual(error_of(BadFilling, mend, ORDERED, wrong, None), held)
        self.assertEqual(error_of(BadFilling, mend, wide, {"n": "x"}, None), "n")
        self.assertEqual(error_of(TooMany, mend, wide, {"n": 3}, None), "patterns")
        self.assertEqual(error_of(TooMany, mend, wide, {"n": None}, ((1, 0),)), "patterns")
        self.assertEqual(mend(wide_form(79), {"n": None}, ((1, 0),)), {"n": 0})
        self.assertEqual(error_of(BadPattern, mend, wide_form(79), {"n": 3}, None), None)

    def test_by_name_in_any_order(self):
        found = mend(telling="first", pattern=((0, 0), (0, 1)), filling=ab(4, 3), form=ORDERED)
        self.assertTrue(is_mending(ORDERED, ab(4, 3), found))

    def test_the_keys_are_in_the_order_of_the_fields(self):
        found = mend(ORDERED, {"b": 3, "a": 4}, ((0, 0), (0, 1)))
        self.assertEqual(list(found), ["a", "b"])
        again = mend(ORDERED, {"b": 3, "a": 4}, ((0, 0), (0, 1)))
        again["a"] = 7
        self.assertEqual(mend(ORDERED, {"b": 3, "a": 4}, ((0, 0), (0, 1))), found)


class DeadEnds(unittest.TestCase):
    """Point 23."""

    def test_ordinary_ones(self):
        self.assertIsNone(dead_end(ORDERED))
        self.assertIsNone(dead_end(ORDERED, telling="first"))
        self.assertEqual(dead_end(TURNS), ab(None, None))
        self.assertEqual(dead_end(TURNS, telling="first"), ab(None, None))
        form = fields("check there needs b given blames b", "check up needs a > b after there blames a", "check down needs b > a after there")
        found = {telling: Space.of(form).pattern_of(dead_end(form, telling=telling)) for telling in TELLINGS}
        self.assertEqual(found, {"all": ((), (0, 0)), "first": ((0, 1), (0, 0))})

    def test_a_form_in_which_nothing_is_told(self):
        for telling in TELLINGS:
            self.assertIsNone(dead_end(fields("guard no needs false"), telling=telling))

    def test_the_first_pattern_that_has_one(self):
        found = []
        for world in worlds(23, 60):
            for telling in TELLINGS:
                ways = world.ways(telling)
                wanted = [key for key in ways if ways[key] == []][:1]
                end = dead_end(world.form, telling=telling)
                self.assertEqual([] if end is None else [world.pattern(end)], wanted)
                self.assertEqual([] if end is None else list(end), world.names if wanted else [])
                found.append(end is None)
        self.assertGreater(found.count(True), 20)
        self.assertGreater(found.count(False), 20)

    def test_wrong_inputs(self):
        self.assertEqual(error_of(TooMany, dead_end, wide_form(80)), "patterns")
        self.assertIsNone(dead_end(wide_form(79)))
        self.assertEqual(dead_end(wide_form(79, blamed=False)), {"n": None})
        for wrong in WRONG_TELLINGS:
            self.assertEqual(error_of(BadTelling, dead_end, wide_form(80), telling=wrong), wrong)
        self.assertIsNone(dead_end(telling="first", form=ORDERED))

    def test_what_is_returned_is_new(self):
        found = dead_end(TURNS)
        found["a"] = 5
        self.assertEqual(dead_end(TURNS), ab(None, None))


class Plays(unittest.TestCase):
    """Point 23."""

    def test_plays(self):
        for play in [
            (ab(1, 2),), (ab(None, None),), (ab(None, None), ab(3, 3)), (ab(None, None), ab(3, 3), ab(3, 4)),
            (ab(None, 7), ab(7, 7), ab(7, (15, 2))), (ab(4, 3), ab(4, 5)),
        ]:
            for telling in TELLINGS:
                self.assertTrue(is_play(ORDERED, play, telling=telling))

    def test_tuples_that_just_are_not(self):
        for thing in [
            (), [ab(1, 2)], [ab(None, None), ab(3, 3)], (ab(3, 3), ab(3, 3)), (ab(None, 3), ab(None, 3), ab(1, 3)), ab(1, 2),
            (ab(1, 2), ab(1, 2)), (ab(1, 2), ab(1, 3)), (ab(3, 3), ab(3, 4), ab(3, 5)), (ab(3, 3), ab(2, 3)), (ab(3, 3), None),
            (ab(3, 3), {"a": 3}), (ab(3, 3), {"a": 3, "b": True}), (ab(3, 3), {"a": 3, "b": 4, "c": 5}), (None,), ((),),
            ({"a": "x", "b": 1},), (ab(3, 3), (ab(3, 4),)), (ab(3, 3), [ab(3, 4)]), {0: ab(1, 2)}, (ab(True, 2),),
        ]:
            for telling in TELLINGS:
                self.assertIs(is_play(ORDERED, thing, telling=telling), False)

    def test_the_telling_matters(self):
        play = (ab(None, 3), ab(5, 3), ab(5, 6))
        self.assertFalse(is_play(BOTH, play))
        self.assertFalse(is_play(BOTH, play, telling="all"))
        self.assertTrue(is_play(BOTH, play, telling="first"))
        form = fields("check one needs a > 0 blames a", "check two needs b > 0 blames b")
        self.assertTrue(is_play(form, (ab(0, 0), ab(1, 1))))
        self.assertFalse(is_play(form, (ab(0, 0), ab(1, 1)), telling="first"))

    def test_each_step_counts(self):
        play = [ab(1, 2)]
        for at in range(60):
            last = play[-1]
            play.append(ab(last["b"] + 1, last["b"]) if at % 2 == 0 else ab(last["a"], last["a"] + 1))
        self.assertTrue(is_play(TURNS, tuple(play)))
        for at in range(61):
            wrong = [dict(one) for one in play]
            wrong[at]["b"] = wrong[at]["b"] - 2
            self.assertEqual(is_play(TURNS, tuple(wrong)), False)
            self.assertFalse(is_play(TURNS, tuple(play[:at] + [None] + play[at:])))
        self.assertEqual(rounds_of(TURNS, tuple(play)), 61)

    def test_strange_things(self):
        for thing in STRANGE:
            self.assertIs(is_play(ORDERED, thing), False)
            self.assertIs(is_play(ORDERED, (ab(3, 3), thing)), False)

    def test_long_ones(self):
        play = tuple(ab(2 * k + 1, 2 * k) if j else ab(2 * k - 1, 2 * k) for k in range(1500) for j in (0, 1))
        self.assertTrue(is_play(TURNS, play))
        self.assertEqual(rounds_of(TURNS, play), 3000)
        self.assertFalse(is_play(TURNS, play + (ab(0, 0),)))

    def test_random_ones(self):
        chance = random.Random(24)
        answers = []
        for world in worlds(24, 60):
            for telling in TELLINGS:
                play = [odd_filling(chance, world)]
                while len(play) < 5:
                    nexts = list(world.mendings(play[-1], telling).values())
                    if not nexts:
                        break
                    play.append(chance.choice(nexts))
                for other in [play, play + [odd_filling(chance, world)], play[:1] + play[2:], play[:2] * 2]:
                    for by in TELLINGS:
                        wanted = world.is_play(other, by)
                        self.assertIs(is_play(world.form, tuple(other), telling=by), wanted)
                        answers.append(wanted and len(other) > 1)
                self.assertEqual(rounds_of(world.form, tuple(play)), world.rounds(play))
        self.assertGreater(answers.count(True), 60)

    def test_rounds(self):
        self.assertEqual(rounds_of(ORDERED, (ab(1, 2),)), 0)
        self.assertEqual(rounds_of(ORDERED, (ab(None, None),)), 1)
        self.assertEqual(rounds_of(ORDERED, (ab(None, None), ab(3, 3), ab(3, 4))), 2)
        self.assertEqual(rounds_of(play=(ab(None, 3), ab(5, 3)), form=BOTH), 2)
        self.assertEqual(rounds_of(wide_form(80), ({"n": None}, {"n": 3})), 1)

    def test_wrong_inputs(self):
        for wrong in WRONG_TELLINGS:
            self.assertEqual(error_of(BadTelling, is_play, ORDERED, [], telling=wrong), wrong)
        self.assertTrue(is_play(telling="all", thing=(ab(1, 2),), form=ORDERED))

    def test_no_space_is_needed_and_nothing_is_changed(self):
        play = ({"n": None}, {"n": 3})
        self.assertTrue(is_play(wide_form(80), play))
        self.assertEqual(play, ({"n": None}, {"n": 3}))


if __name__ == "__main__":
    unittest.main()
