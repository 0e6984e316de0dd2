import itertools
import unittest

from termseats.errors import BadChoices, BadHouse, BadStand
from termseats.orders import are_above, ends, is_above, lower, mirrored, mirrored_stand, upper
from termseats.years import run
from tests import plain
from tests.things import CHARACTERS, Hostile, all_ways, some_cases, some_letters, some_stand, things

KEPT = (1, 0, ("kept",))
TWO = (((KEPT,) * 2, (KEPT,)), 2)
ONE = (((KEPT,),), 1)


def some_above(rng, letters):
    """Letters that are above others."""
    return "".join([rng.choice(("a", letter)) for letter in letters])


class ByHand(unittest.TestCase):
    def test_is_above(self):
        for stand, other, told in (
                (("ab", "a"), ("ab", "a"), True), (("aa", "a"), ("ab", "a"), True), (("ab", "a"), ("aa", "a"), False),
                (("ab", "a"), ("ba", "a"), False), (("ba", "a"), ("ab", "a"), False), (("aa", "b"), ("bb", "a"), False),
                (("bb", "a"), ("bb", "b"), True), (("bb", "b"), ("bb", "b"), True), (("aa", "a"), ("bb", "b"), True)):
            self.assertIs(is_above(TWO, stand, other), told)

    def test_lower_and_upper(self):
        self.assertEqual(lower(TWO, ("ab", "a"), ("ba", "a")), ("bb", "a"))
        self.assertEqual(upper(TWO, ("ab", "a"), ("ba", "a")), ("aa", "a"))
        self.assertEqual(lower(TWO, ("ab", "b"), ("aa", "a")), ("ab", "b"))
        self.assertEqual(upper(TWO, ("ab", "b"), ("ab", "b")), ("ab", "b"))

    def test_ends(self):
        self.assertEqual(ends(TWO), (("bb", "b"), ("aa", "a")))
        self.assertEqual(ends(ONE), (("b",), ("a",)))

    def test_mirrored(self):
        self.assertEqual(mirrored(TWO), TWO)
        for word in ("body", "rest"):
            for tie, other in (("a", "b"), ("b", "a"), ("kept", "kept")):
                house = ((((3, 2, (word, 1, tie)), (2, 0, ("ward", 1))), (KEPT,)), 2)
                self.assertEqual(mirrored(house), ((((3, 2, (word, 1, other)), (2, 0, ("ward", 1))), (KEPT,)), 2))
        self.assertEqual(mirrored_stand(TWO, ("ab", "b")), ("ba", "a"))
        self.assertEqual(mirrored_stand(TWO, ("aa", "a")), ("bb", "b"))

    def test_are_above(self):
        for rows, others, told in (
                (("ab", "ab"), ("ab", "ab"), True), (("aa", "ab"), ("ab", "bb"), True), ((), (), True),
                (("ab", "ab"), ("ab", "ba"), False), (("bb", "ab"), ("ab", "ab"), False), (("bb",), ("ab",), False),
                (("aa",), ("bb",), True), (("bb",) * 400, ("bb",) * 400, True)):
            for one, other in itertools.product((tuple, list), repeat=2):
                self.assertIs(are_above(TWO, one(rows), other(others)), told)

    def test_no_wards(self):
        house = (((KEPT,),), 0)
        self.assertIs(are_above(house, ["", ""], ("", "")), True)


class ByThePlainWay(unittest.TestCase):
    def test_all_stands_of_small_houses(self):
        for sizes in ((1,), (2,), (3,), (1, 2), (1, 1, 1), (2, 1, 1)):
            house = (tuple([(KEPT,) * size for size in sizes]), 0)
            for stand, other in itertools.product(plain.all_stands(house), repeat=2):
                self.assertIs(is_above(house, stand, other), plain.is_above(stand, other))
                low, high = lower(house, stand, other), upper(house, stand, other)
                self.assertEqual(low, tuple([
                    "".join(["a" if (one, two) == ("a", "a") else "b" for one, two in zip(letters, others)])
                    for letters, others in zip(stand, other)]))
                self.assertEqual(high, mirrored_stand(house, lower(
                    house, mirrored_stand(house, stand), mirrored_stand(house, other))))
                self.assertTrue(plain.is_above(stand, low) and plain.is_above(other, low))
                self.assertTrue(plain.is_above(high, stand) and plain.is_above(high, other))
            self.assertEqual(ends(house), plain.ends_of(house))

    def test_mirrored_twice(self):
        for rng, house, stand in some_cases(150, 61):
            self.assertEqual(mirrored(mirrored(house)), house)
            self.assertEqual(mirrored_stand(house, mirrored_stand(house, stand)), stand)
            other = mirrored_stand(house, stand)
            self.assertEqual([len(letters) for letters in other], [len(letters) for letters in stand])
            for letters, others in zip(stand, other):
                self.assertTrue(all(one != two for one, two in zip(letters, others)))
            for body, seats in zip(mirrored(house)[0], house[0]):
                for (term, phase, way), (right_term, right_phase, right) in zip(body, seats):
                    tie = {"a": "b", "b": "a"}.get(right[-1], right[-1]) if len(right) == 3 else None
                    self.assertEqual((term, phase), (right_term, right_phase))
                    self.assertEqual(way, right if tie is None else right[:2] + (tie,))

    def test_kinds_of_values(self):
        for rng, house, stand in some_cases(30, 62):
            other = some_stand(rng, house)
            for told in (lower(house, stand, other), upper(house, stand, other), mirrored_stand(house, stand),
                         *ends(house)):
                self.assertIs(type(told), tuple)
                self.assertEqual({type(letters) for letters in told}, {str})
            self.assertIs(type(ends(house)), tuple)
            self.assertEqual({type(body) for body in mirrored(house)[0]}, {tuple})


class Facts(unittest.TestCase):
    def test_run_stays_above(self):
        for rng, house, other in some_cases(250, 63):
            stand = tuple([some_above(rng, letters) for letters in other])
            others = [some_letters(rng, house[1]) for _ in range(20)]
            rows = [some_above(rng, choices) for choices in others]
            self.assertTrue(is_above(house, stand, other) and are_above(house, rows, others))
            for one, two in zip(run(house, stand, rows), run(house, other, others)):
                self.assertTrue(is_above(house, one, two))

    def test_the_mirrored_house_goes_the_mirrored_way(self):
        for rng, house, stand in some_cases(250, 64):
            rows = [some_letters(rng, house[1]) for _ in range(20)]
            turned = ["".join(["b" if letter == "a" else "a" for letter in row]) for row in rows]
            told = run(mirrored(house), mirrored_stand(house, stand), turned)
            self.assertEqual(told, tuple([mirrored_stand(house, one) for one in run(house, stand, rows)]))

    def test_each_way(self):
        for word_and_tie in all_ways(2, 1):
            house = ((((1, 0, word_and_tie), (2, 1, ("kept",))), ((2, 0, ("ward", 0)), (3, 1, ("kept",)))), 1)
            for stand in plain.all_stands(house):
                told = run(mirrored(house), mirrored_stand(house, stand), ("a", "b", "a"))
                right = run(house, stand, ("b", "a", "b"))
                self.assertEqual(told, tuple([mirrored_stand(house, one) for one in right]))


class Wrong(unittest.TestCase):
    def assert_choices(self, call, place):
        with self.assertRaises(BadChoices) as caught:
            call()
        self.assertEqual(caught.exception.place, place)
        self.assertIs(type(caught.exception.place), type(place))

    def test_houses(self):
        for thing in things():
            for call in (lambda: is_above(thing, None, None), lambda: are_above(thing, None, None),
                         lambda: lower(thing, None, None), lambda: upper(thing, None, None), lambda: ends(thing),
                         lambda: mirrored(thing), lambda: mirrored_stand(thing, None)):
                with self.assertRaises(BadHouse):
                    call()

    def test_stands(self):
        for thing in things():
            calls = [lambda: mirrored_stand(TWO, thing)]
            for function in (is_above, lower, upper):
                calls += [lambda function=function: function(TWO, thing, ("ab", "a")),
                          lambda function=function: function(TWO, thing, Hostile()),
                          lambda function=function: function(TWO, ("ab", "a"), thing)]
            for call in calls:
                with self.assertRaises(BadStand) as caught:
                    call()
                self.assertIs(caught.exception.value, thing)

    def test_the_first_of_two_stands(self):
        for function in (is_above, lower, upper):
            for stand, other in ((("ab",), ("a", "b")), (("aa", "a", "a"), ("ab", "a"))):
                with self.assertRaises(BadStand) as caught:
                    function(TWO, stand, other)
                self.assertIs(caught.exception.value, stand)

    def test_rows(self):
        for thing in things():
            if isinstance(thing, (list, tuple)):
                wrong = [place for place, one in enumerate(thing) if type(one) is not str or one not in ("a", "b")]
                if wrong:
                    self.assert_choices(lambda: are_above(ONE, thing, None), wrong[0])
                    self.assert_choices(lambda: are_above(ONE, ("a",) * 3, thing), wrong[0])
                else:
                    self.assertIs(are_above(ONE, thing, thing), True)
            else:
                self.assert_choices(lambda: are_above(ONE, thing, Hostile()), None)
                self.assert_choices(lambda: are_above(ONE, (), thing), None)

    def test_rows_that_are_not_as_many(self):
        for many, others in itertools.product((0, 1, 2, 399, 400), repeat=2):
            call = lambda: are_above(ONE, ("a",) * many, ["b"] * others)
            if many == others:
                self.assertIs(call(), True)
            else:
                self.assert_choices(call, None)

    def test_which_rows_are_refused_first(self):
        self.assert_choices(lambda: are_above(TWO, ("aa", "a"), (None,)), 1)
        self.assert_choices(lambda: are_above(TWO, ("aa", "ab"), (None,)), 0)
        self.assert_choices(lambda: are_above(TWO, ("aa", "ab", "bb"), ("bb", "c")), 1)
        self.assert_choices(lambda: are_above(TWO, ("aa",) * 401, ("b",)), None)
        self.assert_choices(lambda: are_above(TWO, ("a",), ("aa",) * 401), 0)
        self.assert_choices(lambda: are_above(TWO, ("aa",), ("aa",) * 401), None)
        self.assert_choices(lambda: are_above(TWO, ("aa",) * 2, ("aa",)), None)

    def test_each_character(self):
        for letter in CHARACTERS:
            if letter not in ("a", "b"):
                self.assert_choices(lambda: are_above(ONE, ("a", letter), None), 1)
                with self.assertRaises(BadStand):
                    is_above(ONE, ("a",), (letter,))


if __name__ == "__main__":
    unittest.main()
