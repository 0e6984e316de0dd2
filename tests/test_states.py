import itertools
import random
import unittest
from unittest import mock

from termseats import graphs
from termseats.errors import BadBand, BadHouse, BadStand, TooGreat
from termseats.states import nexts, states
from tests import plain
from tests.things import (
    BANDS, CHARACTERS, changed, mixed_cases, replaced, small_house, some_cases, some_stand, things)

# One seat of one ward, each year.
ONE = ((((1, 0, ("ward", 0)),),), 1)
# From here 20,001 states come.
TOO_MANY = (
    (((5, 0, ("rest", 2, "kept")), (5, 3, ("body", 1, "b")), (5, 2, ("ward", 1)), (5, 2, ("ward", 2))),
     ((5, 0, ("body", 2, "b")), (5, 1, ("body", 2, "b")), (5, 3, ("rest", 0, "b")), (5, 1, ("rest", 0, "kept"))),
     ((5, 1, ("ward", 0)),)), 4)
TOO_MANY_CASE = (TOO_MANY, ("aabb", "abba", "b"), (2, 2))


class ByHand(unittest.TestCase):
    def test_any_choices(self):
        self.assertEqual(states(ONE, ("b",), (None, 1)), ((("a",), 0, "", ()), (("b",), 0, "", ())))
        self.assertEqual(nexts(ONE, ("b",), (None, 1), (("a",), 0, "", ())),
                         (("a", (("a",), 0, "", ())), ("b", (("b",), 0, "", ()))))

    def test_the_first_state_alone_has_no_year_ahead(self):
        self.assertEqual(states(ONE, ("b",), (4, 1)), (
            (("a",), 0, "a", (0,)), (("b",), 0, "", ()), (("b",), 0, "b", (0,))))
        self.assertEqual(nexts(ONE, ("b",), (4, 1), (("b",), 0, "", ())),
                         (("a", (("a",), 0, "a", (0,))), ("b", (("b",), 0, "b", (0,)))))

    def test_no_ward_turns(self):
        self.assertEqual(nexts(ONE, ("b",), (0, 1), (("b",), 0, "", ())),
                         (("a", (("a",), 0, "a", (0,))), ("b", (("b",), 0, "b", (0,)))))
        self.assertEqual(nexts(ONE, ("b",), (0, 1), (("a",), 0, "a", (0,))), (("a", (("a",), 0, "a", (0,))),))
        self.assertEqual(nexts(ONE, ("b",), (0, 4), (("a",), 0, "a", (0,))), (("a", (("a",), 0, "a", (0,))),))

    def test_a_gap(self):
        # The ward turns in a year, and cannot turn in the two years behind it.
        start = (("b",), 0, "b", (0,))
        turned = (("a",), 0, "a", (2,))
        once, twice = (("a",), 0, "a", (1,)), (("a",), 0, "a", (0,))
        for turn in (None, 1, 4):
            told = lambda state: nexts(ONE, ("b",), (turn, 3), state)
            self.assertEqual(told(start), (("a", turned), ("b", start)))
            self.assertEqual(told(turned), (("a", once),))
            self.assertEqual(told(once), (("a", twice),))
            self.assertEqual(told(twice), (("a", twice), ("b", (("b",), 0, "b", (2,)))))
            self.assertEqual(len(states(ONE, ("b",), (turn, 3))), 7)

    def test_at_most_so_many_wards_turn(self):
        house = ((((1, 0, ("kept",)),),), 3)
        for turn, many in ((None, 8), (0, 1), (1, 4), (2, 7), (3, 8), (4, 8)):
            told = nexts(house, ("a",), (turn, 2), (("a",), 0, "aba", (0, 0, 0)))
            self.assertEqual(len(told), many)
            for choices, (_, _, last, ages) in told:
                self.assertEqual(last, choices)
                self.assertEqual(ages, tuple([int(one != other) for one, other in zip(choices, "aba")]))

    def test_years_by_the_round(self):
        house = ((((2, 1, ("kept",)), (3, 0, ("kept",))),), 0)
        self.assertEqual(states(house, ("ab",), (None, 1)), tuple([(("ab",), year, "", ()) for year in range(6)]))

    def test_no_wards(self):
        house = ((((2, 1, ("rest", 0, "a")), (2, 0, ("kept",))),), 0)
        for band in BANDS:
            self.assertEqual(states(house, ("ab",), band), (
                (("ab",), 0, "", ()), (("ab",), 1, "", ()), (("bb",), 0, "", ()), (("bb",), 1, "", ())))
            self.assertEqual(nexts(house, ("ab",), band, (("ab",), 1, "", ())), (("", (("bb",), 0, "", ())),))


class ByThePlainWay(unittest.TestCase):
    def test_houses_of_each_size_with_each_band(self):
        for many, (rng, house, stand, band) in enumerate(mixed_cases(31)):
            graph = plain.graph_of(house, stand, band)
            told = states(house, stand, band)
            self.assertIs(type(told), tuple)
            self.assertEqual(told, tuple(sorted(graph)))
            self.assertTrue(plain.is_ascending(told))
            for state in rng.sample(told, min(6, len(told))) + [(stand, 0, "", ())]:
                pairs = nexts(house, stand, band, state)
                self.assertEqual(pairs, tuple(sorted(graph[state].items())))
                self.assertIs(type(pairs), tuple)
                self.assertEqual({type(pair) for pair in pairs}, {tuple})
            if many % 10 == 0:
                for state in told[:60]:
                    self.assertEqual(nexts(house, stand, band, state), tuple(sorted(graph[state].items())))

    def test_rows_within_the_band_alone_lead_on(self):
        # All rows of four years, whether they are within the band by point 13 or not.
        for wards, band in itertools.product((1, 2), BANDS):
            rng = random.Random(f"{wards} {band}")
            house = small_house(rng, 1, wards, 3)
            stand = some_stand(rng, house)
            for rows in itertools.product(plain.all_rows(wards), repeat=4 if wards == 2 else 7):
                if rng.random() < (0.1 if wards == 2 else 0.3):
                    told = plain.walk(house, band, (stand, 0, "", ()), rows)
                    self.assertEqual(told is not None, plain.is_within(band, rows))
                    self.assertEqual(self.goes(house, stand, band, rows), told is not None)

    def goes(self, house, stand, band, rows):
        state = (stand, 0, "", ())
        for choices in rows:
            pairs = dict(nexts(house, stand, band, state))
            if choices not in pairs:
                return False
            state = pairs[choices]
        return True


class NoStates(unittest.TestCase):
    def test_things_of_every_kind(self):
        for band in ((None, 1), (None, 2), (1, 1)):
            for thing in things():
                self.assertIsNone(nexts(ONE, ("a",), band, thing))
                for place in range(4):
                    state = replaced((("a",), 0, "a", (0,)), (place,), thing)
                    right = band != (None, 1) and thing_is(thing, (("a",), 0, "a", (0,))[place])
                    other = band != (None, 1) and place == 2 and thing_is(thing, "b")
                    if not right and not other:
                        self.assertIsNone(nexts(ONE, ("a",), band, state), state)

    def test_states_that_never_come(self):
        told = lambda band, state: nexts(ONE, ("a",), band, state)
        first = (("a",), 0, "", ())
        self.assertEqual(len(told((None, 2), first)), 2)
        for state in ((("b",), 0, "", ()), (("a",), 1, "", ()), (("a",), 0, "b", (0,)), (("b",), 0, "b", (2,)),
                      (("a",), 0, "a", ()), (("a",), 0, "", (0,)), (("a",), 0, "a", (0, 0)),
                      (("aa",), 0, "a", (0,)), (("a",), -1, "a", (0,)), (("a",), 0, "aa", (0,))):
            self.assertIsNone(told((None, 2), state))
        self.assertIsNone(told((None, 1), (("a",), 0, "a", (0,))))
        self.assertEqual(len(told((None, 1), (("b",), 0, "", ()))), 2)

    def test_much_like_a_state(self):
        for rng, house, stand, band in itertools.islice(mixed_cases(32), 0, None, 3):
            graph = plain.graph_of(house, stand, band)
            for state in rng.sample(sorted(graph), min(3, len(graph))):
                for _ in range(4):
                    other = changed(rng, state)
                    if plain.is_state(house, band, other) and other in graph:
                        self.assertEqual(nexts(house, stand, band, other), tuple(sorted(graph[other].items())))
                    else:
                        self.assertIsNone(nexts(house, stand, band, other))

    def test_true_is_not_1_and_lists_are_no_tuples(self):
        house = ((((2, 1, ("ward", 0)),),), 1)
        for state in ((("a",), 1, "a", (0,)), (("a",), 1, "b", (0,)), (("b",), 0, "b", (1,))):
            self.assertIsNotNone(nexts(house, ("a",), (1, 2), state))
        for state in ((("a",), True, "a", (0,)), (("a",), 1, "a", (False,)), (("b",), False, "b", (1,)),
                      (("b",), 0, "b", (True,)), [("a",), 1, "a", (0,)], (["a"], 1, "a", (0,)),
                      (("a",), 1, "a", [0]), (("a",), 1, ("a",), (0,)), (("a",), 1, b"a", (0,))):
            self.assertIsNone(nexts(house, ("a",), (1, 2), state))

    def test_each_character(self):
        for letter in CHARACTERS:
            for state in (((letter,), 0, "a", (0,)), (("a",), 0, letter, (0,))):
                told = nexts(ONE, ("a",), (1, 1), state)
                self.assertEqual(told is not None, letter == "a")


def thing_is(thing, value):
    """Whether a thing is just a value, of the same kind throughout."""
    return type(thing) is type(value) and repr(thing) == repr(value)


class TooMany(unittest.TestCase):
    def test_20001_states(self):
        for call in (lambda: states(*TOO_MANY_CASE), lambda: nexts(*TOO_MANY_CASE, None),
                     lambda: nexts(*TOO_MANY_CASE, (TOO_MANY_CASE[1], 0, "", ()))):
            with self.assertRaises(TooGreat) as caught:
                call()
            self.assertEqual(caught.exception.most, 20000)

    def test_many_but_not_too_many_states(self):
        house = ((tuple([(2, place % 2, ("ward", place % 4)) for place in range(9)]),), 4)
        told = states(house, ("a" * 9,), (None, 4))
        self.assertEqual(len(told), 8205)
        self.assertEqual(len(nexts(house, ("a" * 9,), (None, 4), told[0])), 16)

    def test_just_as_many_as_may_come(self):
        for _, house, stand, band in itertools.islice(mixed_cases(33), 0, None, 7):
            many = len(states(house, stand, band))
            with mock.patch.object(graphs, "MOST_STATES", many):
                self.assertEqual(len(states(house, stand, band)), many)
            with mock.patch.object(graphs, "MOST_STATES", many - 1), self.assertRaises(TooGreat) as caught:
                states(house, stand, band)
            self.assertEqual(caught.exception.most, many - 1)


class FirstArgument(unittest.TestCase):
    def test_things_in_the_place_of_the_house_and_the_stand(self):
        for thing in things():
            for call in (lambda: states(thing, ("a",), (None, 1)), lambda: nexts(thing, None, None, None),
                         lambda: states(thing, None, None)):
                with self.assertRaises(BadHouse):
                    call()
            if not thing_is(thing, ("a",)):
                for call in (lambda: states(ONE, thing, (None, 1)), lambda: nexts(ONE, thing, None, None)):
                    with self.assertRaises(BadStand) as caught:
                        call()
                    self.assertIs(caught.exception.value, thing)

    def test_bands(self):
        wrong = [((None,), "form"), ((None, 1, 1), "form"), ([None, 1], "form"), (None, "form"), ((5, 1), "turn"),
                 ((-1, 1), "turn"), ((True, 1), "turn"), (("", 5), "turn"), ((None, 0), "gap"), ((0, 5), "gap"),
                 ((4, True), "gap"), ((None, None), "gap")]
        for band, part in wrong:
            for call in (lambda: states(ONE, ("a",), band), lambda: nexts(ONE, ("a",), band, None),
                         lambda: states(TOO_MANY, TOO_MANY_CASE[1], band)):
                with self.assertRaises(BadBand) as caught:
                    call()
                self.assertEqual(caught.exception.part, part)
        for thing in things():
            if not thing_is(thing, (None, 1)) and not thing_is(thing, (1, 1)):
                with self.assertRaises(BadBand):
                    states(ONE, ("a",), thing)

    def test_houses_of_all_sorts_without_an_error(self):
        for _, house, stand in some_cases(40, 34):
            for band in ((None, 1), (0, 1)):
                try:
                    told = states(house, stand, band)
                except TooGreat:
                    continue
                self.assertIn((stand, 0, "", ()), told)


if __name__ == "__main__":
    unittest.main()
