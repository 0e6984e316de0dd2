import itertools
import unittest

from termseats.errors import BadBand, BadHouse, BadStand
from termseats.houses import house_round, need_band, need_house, need_stand
from tests.things import CHARACTERS, HUGE, all_ways, deep, no_integers, replaced, some_cases, things

KEPT = (1, 0, ("kept",))
# Three bodies with each WAY, the least and the greatest numbers among them.
HOUSE = (
    (
        ((6, 5, ("ward", 3)), (4, 0, ("body", 2, "kept")), (1, 0, ("kept",))),
        ((3, 2, ("rest", 0, "a")),),
        ((2, 1, ("body", 1, "b")), (4, 3, ("ward", 0)), (2, 0, ("rest", 2, "kept"))),
    ),
    4,
)
SEAT_PLACES = ((0, 0), (0, 1), (0, 2), (1, 0), (2, 0), (2, 1), (2, 2))


def fresh(value):
    """An equal value, built anew."""
    return tuple([fresh(part) for part in value]) if isinstance(value, tuple) else value


def sized(*sizes):
    """A house with bodies of so many seats."""
    return (tuple([(KEPT,) * size for size in sizes]), 0)


def termed(*bodies):
    """A house with the TERMS of its bodies."""
    return (tuple([tuple([(term, 0, ("kept",)) for term in body]) for body in bodies]), 0)


class Refusing(unittest.TestCase):
    def assert_right(self, house):
        self.assertIs(need_house(house), house)

    def assert_wrong(self, house, place):
        with self.assertRaises(BadHouse) as caught:
            need_house(house)
        self.assertEqual(caught.exception.place, place)
        self.assertIs(type(caught.exception.place), type(place))
        self.assertIs(type(caught.exception), BadHouse)


class RightHouses(Refusing):
    def test_a_right_house_is_given_back_itself(self):
        for house in (HOUSE, sized(1), sized(9), sized(3, 3, 3), sized(7, 1, 1), termed([6])):
            again = fresh(house)
            self.assertIs(need_house(again), again)
            self.assertIs(need_house(house=again), again)
            self.assertEqual(again, house)

    def test_all_sorts_of_houses(self):
        for _, house, _ in some_cases(300, 11):
            self.assert_right(house)

    def test_numbers_of_wards(self):
        for wards in range(5):
            self.assert_right((((KEPT,),), wards))
        for wards in (-1, 5, 6, HUGE, -HUGE):
            self.assert_wrong((((KEPT,),), wards), "wards")

    def test_numbers_of_bodies(self):
        for many in (1, 2, 3):
            self.assert_right((((KEPT,),) * many, 0))
        for many in (0, 4, 5, 9, 10):
            self.assert_wrong((((KEPT,),) * many, 0), "bodies")

    def test_numbers_of_seats_of_a_body(self):
        for many in range(1, 10):
            self.assert_right(sized(many))
        for many in (0, 10, 11, 40):
            self.assert_wrong(sized(many), (0,))
            self.assert_wrong(sized(1, many), (1,))
            self.assert_wrong(sized(1, 1, many), (2,))

    def test_numbers_of_seats_in_all(self):
        for first, second in itertools.product(range(1, 10), repeat=2):
            if first + second <= 9:
                self.assert_right(sized(first, second))
            else:
                self.assert_wrong(sized(first, second), "seats")
        self.assert_right(sized(4, 4, 1))
        self.assert_wrong(sized(4, 4, 2), "seats")
        self.assert_wrong(sized(8, 1, 1), "seats")
        self.assert_wrong(sized(1, 1, 8), "seats")
        self.assert_wrong(sized(9, 9, 9), "seats")

    def test_terms_and_phases(self):
        for term in range(-1, 9):
            for phase in range(-2, 9):
                house = (((KEPT, (term, phase, ("kept",))),), 0)
                if 1 <= term <= 6 and 0 <= phase < term:
                    self.assert_right(house)
                else:
                    self.assert_wrong(house, (0, 1))
        for number in (HUGE, -HUGE):
            self.assert_wrong((((KEPT, (number, 0, ("kept",))),), 0), (0, 1))
            self.assert_wrong((((KEPT, (6, number, ("kept",))),), 0), (0, 1))
            self.assert_wrong((((KEPT, (number, number - 1, ("kept",))),), 0), (0, 1))

    def test_rounds(self):
        for terms in itertools.product(range(1, 7), repeat=3):
            least = min([n for n in range(1, 61) if all([n % term == 0 for term in terms])])
            houses = (termed(terms), termed(terms[:1], terms[1:]), termed(*[[term] for term in terms]))
            for house in houses:
                if least <= 12:
                    self.assert_right(house)
                    self.assertEqual(house_round(house), least)
                else:
                    self.assert_wrong(house, "round")
                    with self.assertRaises(BadHouse) as caught:
                        house_round(house)
                    self.assertEqual(caught.exception.place, "round")

    def test_rounds_of_one_and_of_many_seats(self):
        for term in range(1, 7):
            self.assertEqual(house_round(termed([term])), term)
        self.assertEqual(house_round(termed([2] * 9)), 2)
        self.assertEqual(house_round(termed([1, 1, 1, 1, 1, 1, 1, 3, 4])), 12)
        self.assertEqual(house_round(termed([1, 1, 1], [1, 1, 1], [1, 2, 5])), 10)
        self.assertEqual(house_round(HOUSE), 12)
        self.assertEqual(house_round(house=HOUSE), 12)
        self.assert_wrong(termed([1, 1, 1], [1, 1, 1], [1, 3, 5]), "round")

    def test_each_way_in_houses_of_each_size(self):
        for bodies, wards in itertools.product((1, 2, 3), range(5)):
            ways = all_ways(bodies, wards)
            self.assertEqual(len(ways), 1 + wards + 6 * bodies)
            for way in ways:
                self.assert_right((((KEPT,),) * (bodies - 1) + (((2, 1, way),),), wards))

    def test_numbers_in_ways(self):
        for bodies, wards in itertools.product((1, 2, 3), range(5)):
            for number in (-HUGE, -2, -1, 0, 1, 2, 3, 4, 5, HUGE):
                behind = ((KEPT,),) * (bodies - 1)
                house = ((((1, 0, ("ward", number)),),) + behind, wards)
                if 0 <= number < wards:
                    self.assert_right(house)
                else:
                    self.assert_wrong(house, (0, 0))
                for word, tie in itertools.product(("body", "rest"), ("a", "b", "kept")):
                    house = ((((1, 0, (word, number, tie)),),) + behind, wards)
                    if 0 <= number < bodies:
                        self.assert_right(house)
                    else:
                        self.assert_wrong(house, (0, 0))

    def test_words_in_ways(self):
        ways = (
            (), "kept", ["kept"], ("Kept",), ("kept ",), ("",), ("a",), ("ward",), ("body",),
            ("kept", 0), ("kept", "a"), ("kept", 0, "a"), ("kept", "kept"), ("ward", 0, "a"),
            ("ward", 0, "kept"), ("ward", "0"), ("Ward", 0), ("wards", 0), ("ward", None),
            ["ward", 0], (0, "ward"), ("body", 0), ("rest", 0), ("body", "a"), ("body", "a", 0),
            ("body", 0, ""), ("body", 0, "c"), ("body", 0, "A"), ("body", 0, "ab"),
            ("body", 0, "kep"), ("body", 0, "=" ), ("body", 0, None), ("body", 0, ("a",)),
            ("rest", 0, "b "), ("rest", 0, "Kept"), ("Rest", 0, "a"), ("house", 0, "a"),
            ("body", 0, "a", "b"), ("rest", 0, "a", 0), ["body", 0, "a"], ("body", 0, b"a"),
            (b"kept",), (("kept",),), None, 0)
        for way in ways:
            self.assert_wrong(((((1, 0, way),),), 1), (0, 0))

    def test_each_character_in_a_tie(self):
        for letter in CHARACTERS:
            for word in ("body", "rest"):
                house = ((((1, 0, (word, 0, letter)),),), 0)
                if letter in ("a", "b"):
                    self.assert_right(house)
                else:
                    self.assert_wrong(house, (0, 0))


class WrongHouses(Refusing):
    def replaced_by_all(self, path, place, right):
        for thing in things():
            house = replaced(HOUSE, path, thing)
            if right(thing):
                self.assert_right(house)
            else:
                self.assert_wrong(house, place)

    @staticmethod
    def integers(*right):
        return lambda thing: type(thing) is int and thing in right

    def test_things_in_the_place_of_the_house(self):
        for thing in things():
            # A pair is refused for what stands in it; the pairs among the things have no wards
            # or no bodies.
            if isinstance(thing, tuple) and len(thing) == 2:
                wards_right = type(thing[1]) is int and 0 <= thing[1] <= 4
                self.assert_wrong(thing, "bodies" if wards_right else "wards")
            else:
                self.assert_wrong(thing, "form")
        for house in (HOUSE + (0,), HOUSE[:1], list(HOUSE), (HOUSE,), deep(50)):
            self.assert_wrong(house, "form")

    def test_things_in_the_place_of_wards(self):
        for thing in things():
            house = (((KEPT,),), thing)
            if type(thing) is int and 0 <= thing <= 4:
                self.assert_right(house)
            else:
                self.assert_wrong(house, "wards")

    def test_things_in_the_place_of_bodies(self):
        for thing in things():
            if isinstance(thing, tuple) and 1 <= len(thing) <= 3:
                # What stands in such a tuple is no body with seats in it.
                first = thing[0]
                inner = (0, 0) if isinstance(first, tuple) and 1 <= len(first) <= 9 else (0,)
                self.assert_wrong((thing, 4), inner)
            else:
                self.assert_wrong((thing, 4), "bodies")
        self.assert_wrong((list(HOUSE[0]), 4), "bodies")

    def test_things_in_the_place_of_a_body(self):
        for body in (0, 1, 2):
            for thing in things():
                house = replaced(HOUSE, (0, body), thing)
                if isinstance(thing, tuple) and 1 <= len(thing) <= 9:
                    self.assert_wrong(house, (body, 0))
                else:
                    self.assert_wrong(house, (body,))
            self.assert_wrong(replaced(HOUSE, (0, body), list(HOUSE[0][body])), (body,))

    def test_things_in_the_place_of_a_seat(self):
        for place in SEAT_PLACES:
            for thing in things():
                self.assert_wrong(replaced(HOUSE, (0,) + place, thing), place)
            seat = HOUSE[0][place[0]][place[1]]
            for wrong in (list(seat), seat[:2], seat + (0,), seat[:2] + seat[2], (seat,), seat[::-1]):
                self.assert_wrong(replaced(HOUSE, (0,) + place, wrong), place)

    def test_things_in_the_place_of_a_term(self):
        for thing in things():
            house = replaced(HOUSE, (0, 0, 2, 0), thing)
            if type(thing) is int and thing in (1, 2, 3, 4, 6):
                self.assert_right(house)
            elif type(thing) is int and thing == 5:
                # The term is right, but beside the other ones of the house the round is 60.
                self.assert_wrong(house, "round")
            else:
                self.assert_wrong(house, (0, 2))

    def test_things_in_the_place_of_a_phase(self):
        self.replaced_by_all((0, 0, 0, 1), (0, 0), self.integers(0, 1, 2, 3, 4, 5))
        self.replaced_by_all((0, 1, 0, 1), (1, 0), self.integers(0, 1, 2))
        self.replaced_by_all((0, 2, 2, 1), (2, 2), self.integers(0, 1))

    def test_things_in_the_place_of_a_way(self):
        for place in SEAT_PLACES:
            for thing in things():
                house = replaced(HOUSE, (0,) + place + (2,), thing)
                if type(thing) is tuple and thing in (("kept",), ("ward", 0), ("body", 0, "a")):
                    self.assert_right(house)
                else:
                    self.assert_wrong(house, place)

    def test_things_in_the_places_of_a_way(self):
        words = lambda *right: lambda thing: type(thing) is str and thing in right
        self.replaced_by_all((0, 0, 2, 2, 0), (0, 2), words("kept"))
        self.replaced_by_all((0, 0, 0, 2, 0), (0, 0), words("ward"))
        self.replaced_by_all((0, 0, 0, 2, 1), (0, 0), self.integers(0, 1, 2, 3))
        self.replaced_by_all((0, 1, 0, 2, 0), (1, 0), words("body", "rest"))
        self.replaced_by_all((0, 1, 0, 2, 1), (1, 0), self.integers(0, 1, 2))
        self.replaced_by_all((0, 1, 0, 2, 2), (1, 0), words("a", "b", "kept"))
        self.replaced_by_all((0, 2, 0, 2, 0), (2, 0), words("body", "rest"))
        self.replaced_by_all((0, 2, 0, 2, 1), (2, 0), self.integers(0, 1, 2))
        self.replaced_by_all((0, 2, 0, 2, 2), (2, 0), words("a", "b", "kept"))

    def test_truth_values_are_no_integers(self):
        house = (((((2, 1, ("ward", 1)), (1, 0, ("body", 1, "a"))), ((2, 1, ("rest", 0, "b")),))), 2)
        self.assert_right(house)
        self.assert_wrong((((KEPT,),), True), "wards")
        self.assert_wrong((((KEPT,),), False), "wards")
        for path in ((0, 0, 0, 1), (0, 0, 0, 2, 1), (0, 0, 1, 0), (0, 0, 1, 1), (0, 0, 1, 2, 1),
                     (0, 1, 0, 1), (0, 1, 0, 2, 1)):
            for truth in (True, False):
                self.assert_wrong(replaced(house, path, truth), path[1:3])


class FirstPart(Refusing):
    """Of a house that has several parts wrong the first one listed is due."""

    def test_wards_ahead_of_all_behind(self):
        for bodies in (None, (), [], ((KEPT,),) * 4, ((),), (((0, 0, 0),),), sized(9, 9)[0],
                       termed([4, 5])[0]):
            for wards in (None, -1, 5, True, "0"):
                self.assert_wrong((bodies, wards), "wards")

    def test_bodies_ahead_of_what_stands_in_them(self):
        self.assert_wrong((((),) * 4, 0), "bodies")
        self.assert_wrong((((0, 0, 0),) * 4, 0), "bodies")
        self.assert_wrong((((KEPT,) * 9,) * 4, 0), "bodies")
        self.assert_wrong((termed([4], [5], [6], [3])[0], 0), "bodies")

    def test_a_body_ahead_of_the_seats_of_it(self):
        self.assert_wrong(((((0, 0, 0),) * 10,), 0), (0,))
        self.assert_wrong((([(0, 0, 0)],), 0), (0,))
        self.assert_wrong((((KEPT,), ((0, 0, 0),) * 10), 0), (1,))

    def test_a_body_ahead_of_what_stands_behind_it(self):
        self.assert_wrong(((None, None, None), 0), (0,))
        self.assert_wrong((((), ((0, 0, 0),), ()), 0), (0,))
        self.assert_wrong((((KEPT,), (), ((0, 0, 0),)), 0), (1,))
        self.assert_wrong((((KEPT,), ((0, 0, 0),), None), 0), (1, 0))
        self.assert_wrong((((KEPT, None), ()), 0), (0, 1))
        self.assert_wrong((((None,), [], (None,)), 0), (0, 0))
        self.assert_wrong((((KEPT,), (KEPT,), []), 0), (2,))

    def test_the_first_of_several_seats(self):
        for first, second in itertools.combinations(SEAT_PLACES, 2):
            wrong = replaced(HOUSE, (0,) + first, (7, 0, ("kept",)))
            self.assert_wrong(replaced(wrong, (0,) + second, None), first)

    def test_bodies_and_seats_ahead_of_how_many_there_are(self):
        self.assert_wrong(sized(10, 9, 9), (0,))
        self.assert_wrong(sized(9, 9, 10), (2,))
        self.assert_wrong(sized(9, 9, 0), (2,))
        self.assert_wrong((((KEPT,) * 9, (KEPT,) * 8 + (None,)), 0), (1, 8))

    def test_seats_ahead_of_the_round(self):
        self.assert_wrong(termed([4] * 9, [5]), "seats")
        self.assert_wrong(termed([4] * 5, [5] * 5), "seats")
        self.assert_wrong(termed([4] * 5, [5] * 4), "round")

    def test_a_seat_ahead_of_the_round(self):
        self.assert_wrong(((((4, 0, ("kept",)), (5, 0, ("kept",)), (1, 1, ("kept",))),), 0), (0, 2))


class Stands(unittest.TestCase):
    def assert_wrong(self, house, stand):
        with self.assertRaises(BadStand) as caught:
            need_stand(house, stand)
        self.assertIs(caught.exception.value, stand)

    def test_a_right_stand_is_given_back_itself(self):
        for letters in itertools.product("ab", repeat=7):
            text = "".join(letters)
            stand = (text[:3], text[3], text[4:])
            self.assertIs(need_stand(HOUSE, stand), stand)
            self.assertIs(need_stand(stand=stand, house=HOUSE), stand)
        for letters in itertools.product("ab", repeat=9):
            stand = ("".join(letters),)
            self.assertIs(need_stand(sized(9), stand), stand)

    def test_things_in_the_place_of_the_stand(self):
        one = sized(1)
        for thing in things():
            if type(thing) is tuple and thing == ("a",):
                self.assertIs(need_stand(one, thing), thing)
            else:
                self.assert_wrong(one, thing)
            self.assert_wrong(HOUSE, thing)

    def test_things_in_the_place_of_each_string(self):
        for body, many in enumerate((3, 1, 3)):
            for thing in things():
                stand = replaced(("aba", "b", "bba"), (body,), thing)
                if type(thing) is str and len(thing) == many and set(thing) <= {"a", "b"}:
                    self.assertIs(need_stand(HOUSE, stand), stand)
                else:
                    self.assert_wrong(HOUSE, stand)

    def test_each_character(self):
        for letter in CHARACTERS:
            for stand in (("a" + letter + "b", "b", "bba"), ("aba", letter, "bba"), ("aba", "b", "ba" + letter)):
                if letter in ("a", "b"):
                    self.assertIs(need_stand(HOUSE, stand), stand)
                else:
                    self.assert_wrong(HOUSE, stand)

    def test_wrong_stands(self):
        for stand in (
                ["aba", "b", "bba"], ("aba", "b"), ("aba", "b", "bba", "a"), ("aba", "b", "bba", ""),
                ("abab", "b", "bba"), ("ab", "b", "bba"), ("aba", "", "bba"), ("aba", "ba", "bba"),
                ("aba", "b", "bbaa"), ("aba", "b", "bb"), ("abc", "b", "bba"), ("aba", "B", "bba"),
                ("aba", "b", "bb="), ("aba", "b", "bb?"), ("a b", "b", "bba"), ("ab\n", "b", "bba"),
                (("a", "b", "a"), "b", "bba"), (["a", "b", "a"], "b", "bba"), ("aba", b"b", "bba"),
                ("bba", "bba", "b"), (("aba", "b", "bba"),), "ababbba", ("ababbba",), ("", "", "")):
            self.assert_wrong(HOUSE, stand)

    def test_the_house_is_refused_ahead_of_the_stand(self):
        for thing in things():
            with self.assertRaises(BadHouse):
                need_stand(thing, ("a",))
            with self.assertRaises(BadHouse):
                need_stand(thing, thing)
        with self.assertRaises(BadHouse) as caught:
            need_stand(sized(9, 1), None)
        self.assertEqual(caught.exception.place, "seats")


class Bands(unittest.TestCase):
    def assert_wrong(self, band, part):
        with self.assertRaises(BadBand) as caught:
            need_band(band)
        self.assertEqual(caught.exception.part, part)
        self.assertIs(type(caught.exception.part), str)

    def test_right_bands_are_given_back_themselves(self):
        for turn in (None, 0, 1, 2, 3, 4):
            for gap in (1, 2, 3, 4):
                band = (turn, gap)
                self.assertIs(need_band(band), band)
                self.assertIs(need_band(band=band), band)

    def test_things_in_the_place_of_the_band(self):
        for thing in things():
            if type(thing) is tuple and len(thing) == 2:
                continue
            self.assert_wrong(thing, "form")
        for band in ([None, 1], [1, 1], (1, 1, 1), (1,), ((1, 1),), {1: 1, 2: 2}, "11"):
            self.assert_wrong(band, "form")

    def test_pairs_that_are_no_bands(self):
        for pair in ((True, True), ("a", "b"), ("ward", 0), ((), ())):
            self.assert_wrong(pair, "turn")
        for pair in ((0, 0), (None, None), (4, "1"), (None, (1,)), (0, [1])):
            self.assert_wrong(pair, "gap")

    def test_things_in_the_place_of_turn(self):
        for thing in things():
            if thing is None or (type(thing) is int and 0 <= thing <= 4):
                self.assertEqual(need_band((thing, 1)), (thing, 1))
            else:
                self.assert_wrong((thing, 1), "turn")

    def test_things_in_the_place_of_gap(self):
        for thing in things():
            for turn in (None, 0, 4):
                if type(thing) is int and 1 <= thing <= 4:
                    self.assertEqual(need_band((turn, thing)), (turn, thing))
                else:
                    self.assert_wrong((turn, thing), "gap")

    def test_least_and_greatest_numbers(self):
        for turn in (-1, 5, HUGE, -HUGE, True, False):
            self.assert_wrong((turn, 1), "turn")
        for gap in (-1, 0, 5, HUGE, -HUGE, True, False, None):
            self.assert_wrong((None, gap), "gap")
            self.assert_wrong((4, gap), "gap")

    def test_turn_ahead_of_gap(self):
        for turn in no_integers():
            if turn is not None:
                self.assert_wrong((turn, 0), "turn")
                self.assert_wrong((turn, turn), "turn")
        self.assert_wrong((5, 5), "turn")


if __name__ == "__main__":
    unittest.main()
