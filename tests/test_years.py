import itertools
import random
import unittest

from termseats.errors import BadChoices, BadHouse, BadNumber, BadStand
from termseats.houses import house_round
from termseats.years import due_seats, majorities, run, year
from tests.plain import stand_by_the_document
from tests.things import CHARACTERS, HUGE, all_ways, some_cases, some_letters, some_stand, things

LAST = 10 ** 30
YEARS = (0, 1, 2, 3, 4, 5, 6, 7, 11, 12, 13, 23, 10 ** 9, 2 ** 63, LAST - 12, LAST - 1, LAST)
# One seat of the ward 0 each year, two of the ward 1 by turns.
WARDS = ((((1, 0, ("ward", 0)), (2, 0, ("ward", 1)), (2, 1, ("ward", 1))),), 2)


def only(way, bodies=1, wards=0, term=1, phase=0):
    """A house with one seat in its first body; the other bodies have three kept seats each."""
    kept = ((1, 0, ("kept",)),) * 3
    return ((((term, phase, way),),) + (kept,) * (bodies - 1), wards)


class Refusing(unittest.TestCase):
    def assert_number_refused(self, call, number):
        with self.assertRaises(BadNumber) as caught:
            call(number)
        self.assertIs(caught.exception.value, number)

    def assert_choices_refused(self, call, choices, place):
        with self.assertRaises(BadChoices) as caught:
            call(choices)
        self.assertEqual(caught.exception.place, place)
        self.assertIs(type(caught.exception.place), type(place))


class Ways(unittest.TestCase):
    """Years of small houses, worked out by hand."""

    def test_wards(self):
        for number in range(4):
            for told in itertools.product("ab", repeat=4):
                choices = "".join(told)
                house = only(("ward", number), wards=4)
                for side in "ab":
                    self.assertEqual(year(house, (side,), 0, choices), (choices[number],))

    def test_kept(self):
        for side in "ab":
            self.assertEqual(year(only(("kept",), wards=1), (side,), 0, "a"), (side,))
            self.assertEqual(year(only(("kept",), wards=1), (side,), 0, "b"), (side,))

    def test_body_with_more_of_one_side(self):
        for tie, side in itertools.product(("a", "b", "kept"), "ab"):
            house = only(("body", 1, tie), bodies=2)
            for letters in ("aaa", "aab", "aba", "baa"):
                self.assertEqual(year(house, (side, letters), 0, ""), ("a", letters))
            for letters in ("bbb", "abb", "bab", "bba"):
                self.assertEqual(year(house, (side, letters), 0, ""), ("b", letters))

    def test_body_with_as_many_of_both_sides(self):
        house = lambda word, tie: (
            (((1, 0, (word, 1, tie)),), ((2, 1, ("kept",)),) * 4), 0)
        for word, letters in itertools.product(("body", "rest"), ("aabb", "abab", "bbaa", "baab")):
            for side in "ab":
                self.assertEqual(year(house(word, "a"), (side, letters), 0, ""), ("a", letters))
                self.assertEqual(year(house(word, "b"), (side, letters), 0, ""), ("b", letters))
                self.assertEqual(year(house(word, "kept"), (side, letters), 0, ""), (side, letters))

    def test_rest_of_none(self):
        # All seats of the body 1 come up, so none of them is counted.
        for side, letters in itertools.product("ab", ("aaa", "bbb", "aab", "abb")):
            for tie, told in (("a", "a"), ("b", "b"), ("kept", side)):
                house = only(("rest", 1, tie), bodies=2)
                self.assertEqual(year(house, (side, letters), 0, ""), (told, letters))

    def test_a_seat_counts_itself_by_body_and_not_by_rest(self):
        for side, tie in itertools.product("ab", ("a", "b", "kept")):
            self.assertEqual(year(only(("body", 0, tie)), (side,), 0, ""), (side,))
        self.assertEqual(year(only(("rest", 0, "a")), ("b",), 0, ""), ("a",))
        self.assertEqual(year(only(("rest", 0, "b")), ("a",), 0, ""), ("b",))
        self.assertEqual(year(only(("rest", 0, "kept")), ("a",), 0, ""), ("a",))

    def test_rest_counts_those_that_do_not_come_up_in_this_year(self):
        house = ((((2, 0, ("rest", 0, "kept")), (2, 0, ("kept",)), (2, 1, ("kept",)),
                   (2, 1, ("rest", 0, "kept"))),), 0)
        self.assertEqual(year(house, ("aabb",), 0, ""), ("babb",))
        self.assertEqual(year(house, ("aabb",), 1, ""), ("aaba",))
        self.assertEqual(year(house, ("bbaa",), 0, ""), ("abaa",))
        self.assertEqual(year(house, ("abba",), 0, ""), ("abba",))
        self.assertEqual(year(house, ("abba",), 1, ""), ("abba",))
        self.assertEqual(year(house, ("babb",), 1, ""), ("babb",))

    def test_rest_of_a_body_that_fills_none_of_its_own_seats(self):
        house = ((((1, 0, ("rest", 1, "b")),), ((3, 0, ("ward", 0)), (3, 1, ("kept",)), (3, 2, ("kept",)))), 1)
        self.assertEqual(year(house, ("b", "baa"), 0, "b"), ("a", "baa"))
        self.assertEqual(year(house, ("b", "baa"), 1, "b"), ("b", "baa"))
        self.assertEqual(year(house, ("a", "baa"), 2, "b"), ("b", "baa"))
        self.assertEqual(year(house, ("a", "aab"), 2, "b"), ("a", "aab"))

    def test_body_counts_all_seats_those_that_come_up_too(self):
        house = ((((1, 0, ("body", 1, "b")),), ((3, 0, ("ward", 0)), (3, 1, ("kept",)), (3, 2, ("kept",)))), 1)
        for number in range(3):
            self.assertEqual(year(house, ("b", "aab"), number, "a"), ("a", "aab"))
            self.assertEqual(year(house, ("a", "bab"), number, "b"), ("b", "bab"))

    def test_all_at_once(self):
        swap = ((((1, 0, ("body", 1, "a")),), ((1, 0, ("body", 0, "a")),)), 0)
        self.assertEqual(year(swap, ("a", "b"), 0, ""), ("b", "a"))
        self.assertEqual(run(swap, ("a", "b"), [""] * 3), (("b", "a"), ("a", "b"), ("b", "a")))
        ring = (tuple([((1, 0, ("body", body, "a")),) for body in (1, 2, 0)]), 0)
        self.assertEqual(run(ring, ("a", "b", "b"), ("",) * 3),
                         (("b", "b", "a"), ("b", "a", "b"), ("a", "b", "b")))

    def test_the_wards_of_this_year_do_not_count_for_a_body_yet(self):
        house = ((((1, 0, ("ward", 0)), (1, 0, ("body", 0, "kept")), (1, 0, ("body", 0, "kept"))),), 1)
        self.assertEqual(run(house, ("abb",), ("a", "a")), (("abb",), ("abb",)))
        self.assertEqual(run(house, ("bab",), ("a", "a", "a")), (("abb",), ("abb",), ("abb",)))
        self.assertEqual(run(house, ("aab",), ("b", "b")), (("baa",), ("baa",)))

    def test_by_one_body_and_by_another(self):
        kept = ((1, 0, ("kept",)),)
        for body in range(3):
            house = (((((1, 0, ("body", body, "a")),) + kept * 2), kept * 3, kept * 3), 0)
            for letters in itertools.product("ab", repeat=3):
                stand = tuple([letter * 3 for letter in letters])
                behind = (letters[body] + letters[0] * 2,) + stand[1:]
                self.assertEqual(year(house, stand, 0, ""), behind)

    def test_only_seats_that_come_up_are_filled(self):
        house = ((tuple([(term, phase, ("ward", 0)) for term, phase in (
            (1, 0), (2, 0), (2, 1), (3, 0), (3, 1), (3, 2), (6, 5), (4, 3), (4, 0))]),), 1)
        self.assertEqual(year(house, ("b" * 9,), 0, "a"), ("aababbbba",))
        self.assertEqual(year(house, ("b" * 9,), 5, "a"), ("ababbaabb",))
        self.assertEqual(year(house, ("b" * 9,), 7, "a"), ("abababbab",))
        self.assertEqual(year(house, ("a" * 9,), 12, "b"), ("bbabaaaab",))

    def test_years_of_the_readme(self):
        self.assertEqual(run(WARDS, ("aaa",), ("ba", "bb")), (("baa",), ("bab",)))
        self.assertEqual(run(WARDS, ("aaa",), ["bb", "ba"]), (("bba",), ("bba",)))


class Years(Refusing):
    def test_each_way_and_each_tie_in_houses_of_each_size(self):
        for bodies in (1, 2, 3):
            for way, at in itertools.product(all_ways(bodies, 2), range(bodies)):
                rng = random.Random(f"{way} in the body {at} of {bodies}")
                sizes = [rng.randint(1, 3) for _ in range(bodies)]
                house = (tuple([
                    tuple([(2, rng.randint(0, 1), way if body == at else ("ward", 1)) for _ in range(size)])
                    for body, size in enumerate(sizes)]), 2)
                parts = [["".join(letters) for letters in itertools.product("ab", repeat=size)]
                         for size in sizes]
                for number, choices in itertools.product((0, 1, LAST), ("aa", "ab", "ba", "bb")):
                    for stand in itertools.product(*parts):
                        self.assertEqual(year(house, stand, number, choices),
                                         stand_by_the_document(house, stand, number, choices))

    def test_houses_of_all_sorts(self):
        for rng, house, stand in some_cases(700, 12):
            for number in YEARS + (rng.randint(0, LAST), rng.randint(0, 10 ** 6)):
                choices = some_letters(rng, house[1])
                behind = year(house, stand, number, choices)
                self.assertEqual(behind, stand_by_the_document(house, stand, number, choices))
                self.assertIs(type(behind), tuple)
                self.assertEqual({type(letters) for letters in behind}, {str})

    def test_only_the_rest_by_the_round_counts(self):
        for rng, house, stand in some_cases(200, 13):
            choices, rest = some_letters(rng, house[1]), rng.randrange(house_round(house))
            behind = year(house, stand, rest, choices)
            for times in (1, 5, 10 ** 20):
                self.assertEqual(year(house, stand, rest + times * house_round(house), choices), behind)

    def test_numbers_of_years(self):
        for call in (lambda number: year(WARDS, ("aaa",), number, "ab"),
                     lambda number: due_seats(WARDS, number)):
            for number in YEARS:
                call(number)
            for number in (-1, -2, LAST + 1, LAST + 12, HUGE, -HUGE, -LAST):
                self.assert_number_refused(call, number)
            for thing in things():
                if isinstance(thing, int) and not isinstance(thing, bool) and 0 <= thing <= LAST:
                    call(thing)
                else:
                    self.assert_number_refused(call, thing)

    def test_choices(self):
        for wards in range(5):
            house = only(("kept",), wards=wards)
            for told in itertools.product("ab", repeat=wards):
                self.assertEqual(year(house, ("a",), 0, "".join(told)), ("a",))
            call = lambda choices: year(house, ("a",), 0, choices)
            for many in range(7):
                if many != wards:
                    self.assert_choices_refused(call, "a" * many, 0)
            for at in range(wards):
                for letter in CHARACTERS:
                    choices = "a" * at + letter + "b" * (wards - at - 1)
                    if letter in ("a", "b"):
                        self.assertEqual(call(choices), ("a",))
                    else:
                        self.assert_choices_refused(call, choices, 0)
            self.assert_choices_refused(call, ("a",) * wards, 0)
            self.assert_choices_refused(call, ["a"] * wards, 0)
            for thing in things():
                if type(thing) is str and len(thing) == wards and set(thing) <= {"a", "b"}:
                    self.assertEqual(call(thing), ("a",))
                else:
                    self.assert_choices_refused(call, thing, 0)


class Runs(Refusing):
    def test_rows_of_none(self):
        for _, house, stand in some_cases(30, 14):
            for rows in ([], ()):
                self.assertEqual(run(house, stand, rows), ())

    def test_a_year_behind_the_other(self):
        for rng, house, stand in some_cases(300, 15):
            rows = [some_letters(rng, house[1]) for _ in range(rng.randint(1, 40))]
            told, now = [], stand
            for number, choices in enumerate(rows):
                now = stand_by_the_document(house, now, number, choices)
                told.append(now)
            for given in (rows, tuple(rows)):
                stands = run(house, stand, given)
                self.assertIs(type(stands), tuple)
                self.assertEqual(stands, tuple(told))

    def test_rows_of_400_choices(self):
        for rng, house, stand in some_cases(12, 16):
            rows = [some_letters(rng, house[1]) for _ in range(400)]
            stands = run(house, stand, rows)
            self.assertEqual(run(house, stand, tuple(rows)), stands)
            self.assertEqual(len(stands), 400)
            for number in range(1, 400):
                self.assertEqual(
                    stands[number], stand_by_the_document(house, stands[number - 1], number, rows[number]))

    def test_more_than_400_choices(self):
        call = lambda rows: run(WARDS, ("aaa",), rows)
        for many in (401, 402, 1000):
            for rows in (["ab"] * many, ("ab",) * many, [None] + ["ab"] * (many - 1), [None] * many):
                self.assert_choices_refused(call, rows, None)

    def test_things_in_the_place_of_rows(self):
        call = lambda rows: run(only(("kept",), wards=1), ("a",), rows)
        for thing in things():
            if isinstance(thing, (list, tuple)):
                wrong = [place for place, one in enumerate(thing)
                         if not isinstance(one, str) or one not in ("a", "b")]
                if wrong:
                    self.assert_choices_refused(call, thing, wrong[0])
                else:
                    self.assertEqual(call(thing), (("a",),) * len(thing))
            else:
                self.assert_choices_refused(call, thing, None)
        for rows in ({"a": 1}, iter(["a"]), "a", "", range(0), {"a"}):
            self.assert_choices_refused(call, rows, None)

    def test_things_in_the_place_of_choices(self):
        call = lambda rows: run(WARDS, ("aaa",), rows)
        right = ("aa", "ab", "ba", "bb")
        for place in (0, 1, 5, 399):
            for thing in things():
                rows = ["ab"] * place + [thing] + ["ba"] * (399 - place)
                for given in (rows, tuple(rows)):
                    if type(thing) is str and thing in right:
                        self.assertEqual(len(call(given)), 400)
                    else:
                        self.assert_choices_refused(call, given, place)

    def test_each_character_in_rows(self):
        for letter in CHARACTERS:
            rows = ["ab", "b" + letter]
            if letter in ("a", "b"):
                self.assertEqual(len(run(WARDS, ("aaa",), rows)), 2)
            else:
                self.assert_choices_refused(lambda given: run(WARDS, ("aaa",), given), rows, 1)

    def test_the_first_of_several_wrong_choices(self):
        call = lambda rows: run(WARDS, ("aaa",), rows)
        self.assert_choices_refused(call, ["ab", "a", "abb", None], 1)
        self.assert_choices_refused(call, ("ab", "ab", "ab", "", "c"), 3)
        self.assert_choices_refused(call, ["ab"] * 398 + [1, 2], 398)

    def test_choices_of_no_wards(self):
        house = only(("body", 0, "kept"))
        self.assertEqual(run(house, ("a",), [""] * 400), (("a",),) * 400)
        self.assert_choices_refused(lambda rows: run(house, ("a",), rows), ["", "a"], 1)


class Majorities(unittest.TestCase):
    def test_one_body(self):
        for many in range(1, 10):
            house = ((((1, 0, ("kept",)),) * many,), 0)
            for letters in itertools.product("ab", repeat=many):
                twice = 2 * letters.count("a")
                side = "a" if twice > many else "b" if twice < many else "="
                self.assertEqual(majorities(house, ("".join(letters),)), (side,))

    def test_several_bodies(self):
        kept = ((1, 0, ("kept",)),)
        house = ((kept * 2, kept * 3, kept * 4), 1)
        self.assertEqual(majorities(house, ("ab", "aba", "bbba")), ("=", "a", "b"))
        self.assertEqual(majorities(house, ("aa", "bba", "baba")), ("a", "b", "="))
        self.assertEqual(majorities(house, ("bb", "bbb", "aaab")), ("b", "b", "a"))
        self.assertEqual(majorities((house[0][:2], 0), ("ba", "bab")), ("=", "b"))

    def test_houses_of_all_sorts(self):
        for _, house, stand in some_cases(200, 17):
            told = majorities(house, stand)
            self.assertIs(type(told), tuple)
            signs = [(letters.count("a") > letters.count("b")) - (letters.count("b") > letters.count("a"))
                     for letters in stand]
            self.assertEqual(told, tuple(["=ab"[sign] for sign in signs]))


class DueSeats(unittest.TestCase):
    def test_by_hand(self):
        self.assertEqual(due_seats(WARDS, 0), ((0, 0), (0, 1)))
        self.assertEqual(due_seats(WARDS, 1), ((0, 0), (0, 2)))
        self.assertEqual(due_seats(WARDS, LAST), ((0, 0), (0, 1)))
        self.assertEqual(due_seats(WARDS, LAST - 1), ((0, 0), (0, 2)))
        house = ((((4, 3, ("kept",)),), ((2, 1, ("kept",)), (6, 5, ("kept",))), ((3, 2, ("kept",)),)), 0)
        self.assertEqual([due_seats(house, number) for number in range(12)], [
            (), ((1, 0),), ((2, 0),), ((0, 0), (1, 0)), (), ((1, 0), (1, 1), (2, 0)),
            (), ((0, 0), (1, 0)), ((2, 0),), ((1, 0),), (), ((0, 0), (1, 0), (1, 1), (2, 0))])

    def test_houses_of_all_sorts(self):
        for rng, house, _ in some_cases(300, 18):
            for number in YEARS + (rng.randint(0, LAST),):
                told = due_seats(house, number)
                self.assertEqual(told, tuple([
                    (body, place)
                    for body, seats in enumerate(house[0])
                    for place, (term, phase, _) in enumerate(seats)
                    if (number - phase) % term == 0]))
                self.assertIs(type(told), tuple)

    def test_kept_seats_come_up_as_others_do(self):
        self.assertEqual(due_seats(only(("kept",), term=5, phase=4), 9), ((0, 0),))
        self.assertEqual(due_seats(only(("kept",), term=5, phase=4), 10), ())


class FirstArgument(unittest.TestCase):
    """Of several wrong arguments the first one is refused."""

    def test_year(self):
        right = (WARDS, ("aaa",), 0, "ab")
        self.assert_first(year, right, (BadHouse, BadStand, BadNumber, BadChoices))

    def test_run(self):
        self.assert_first(run, (WARDS, ("aaa",), ["ab"]), (BadHouse, BadStand, BadChoices))

    def test_majorities(self):
        self.assert_first(majorities, (WARDS, ("aaa",)), (BadHouse, BadStand))

    def test_due_seats(self):
        self.assert_first(due_seats, (WARDS, 0), (BadHouse, BadNumber))

    def test_house_round(self):
        self.assert_first(house_round, (WARDS,), (BadHouse,))

    def assert_first(self, function, right, errors):
        function(*right)
        for wrong in itertools.product((False, True), repeat=len(right)):
            if not any(wrong):
                continue
            given = [None if bad else value for bad, value in zip(wrong, right)]
            with self.assertRaises(errors[wrong.index(True)]) as caught:
                function(*given)
            self.assertIs(type(caught.exception), errors[wrong.index(True)])

    def test_things_in_the_place_of_the_house(self):
        for thing in things():
            for call in (lambda: year(thing, ("a",), 0, ""), lambda: run(thing, ("a",), []),
                         lambda: majorities(thing, ("a",)), lambda: due_seats(thing, 0),
                         lambda: house_round(thing)):
                with self.assertRaises(BadHouse):
                    call()

    def test_things_in_the_place_of_the_stand(self):
        for thing in things():
            for call in (lambda: year(WARDS, thing, 0, "ab"), lambda: run(WARDS, thing, []),
                         lambda: majorities(WARDS, thing)):
                with self.assertRaises(BadStand) as caught:
                    call()
                self.assertIs(caught.exception.value, thing)

    def test_stands_of_other_houses(self):
        for rng, house, _ in some_cases(60, 19):
            other = ((house[0][0] * 9,)[0][:9], (house[0][0] * 9)[:9], house[0][0][:1])
            stand = some_stand(rng, (other, 0))
            for call in (lambda: year(house, stand, 0, "a" * house[1]), lambda: run(house, stand, []),
                         lambda: majorities(house, stand)):
                with self.assertRaises(BadStand):
                    call()


if __name__ == "__main__":
    unittest.main()
