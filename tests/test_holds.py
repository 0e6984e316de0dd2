import itertools
import random
import unittest

from termseats.errors import BadHouse, BadNumber, BadSeats, BadStand, BadWards
from termseats.holds import is_hold, least_helps, least_holds, stand_with, surely_from
from tests import plain
from tests.test_states import thing_is
from tests.things import HUGE, Hostile, small_house, some_house, some_stand, things

KEPT = (1, 0, ("kept",))
WARD = (1, 0, ("ward", 0))
# Three seats of which each is filled by the rest of them, one a year.
ROUND = ((tuple([(3, phase, ("rest", 0, "b")) for phase in range(3)]),), 0)
# One seat of a ward each year, two of another ward by turns.
WARDS = (((WARD, (2, 0, ("ward", 1)), (2, 1, ("ward", 1))),), 2)


def all_seats(house):
    return [(body, place) for body, seats in enumerate(house[0]) for place in range(len(seats))]


def some_of(things_of_it):
    """All tuples of some of the things, in their order."""
    return [some for many in range(len(things_of_it) + 1) for some in itertools.combinations(things_of_it, many)]


def has_more(stand, body):
    return stand[body].count("a") > stand[body].count("b")


def holds_by_trying(house, seats, body):
    """Whether "a" has the body behind each year, from each stand in which it has the seats, by any choices."""
    starts = [stand for stand in plain.all_stands(house) if all(stand[one][place] == "a" for one, place in seats)]
    waiting = [(stand, 0) for stand in starts]
    seen = set(waiting)
    for stand, number in waiting:
        for choices in plain.all_rows(house[1]):
            behind = plain.stand_by_the_document(house, stand, number, choices)
            if not has_more(behind, body):
                return False
            later = (behind, (number + 1) % plain.round_of(house))
            if later not in seen:
                seen.add(later)
                waiting.append(later)
    return True


def surely_by_trying(house, stand, wards, body):
    """From which year on, all choices in which the wards tell "a" being tried, or None."""
    rows = [choices for choices in plain.all_rows(house[1]) if all(choices[ward] == "a" for ward in wards)]
    stands, number, since, seen = frozenset([stand]), 0, 0, {}
    while (stands, number % plain.round_of(house)) not in seen:
        seen[(stands, number % plain.round_of(house))] = number
        stands = frozenset([plain.stand_by_the_document(house, one, number, choices)
                            for one in stands for choices in rows])
        number += 1
        if not all(has_more(one, body) for one in stands):
            since = number
    return since if since <= seen[(stands, number % plain.round_of(house))] else None


def least_by_trying(things_of_it, does):
    """All tuples of some things that do it, none of which can be left out."""
    good = {some for some in some_of(things_of_it) if does(some)}
    return tuple(sorted([
        some for some in good if not any(some[:at] + some[at + 1:] in good for at in range(len(some)))]))


class ByHand(unittest.TestCase):
    def test_stand_with(self):
        house = (((KEPT,) * 2, (KEPT,) * 3), 1)
        self.assertEqual(stand_with(house, ()), ("bb", "bbb"))
        self.assertEqual(stand_with(house, ((0, 1),)), ("ba", "bbb"))
        self.assertEqual(stand_with(house, ((0, 0), (1, 0), (1, 2))), ("ab", "aba"))
        self.assertEqual(stand_with(house, tuple(all_seats(house))), ("aa", "aaa"))

    def test_kept_seats(self):
        house = (((KEPT,) * 3,), 1)
        self.assertEqual(least_holds(house, 0), (((0, 0), (0, 1)), ((0, 0), (0, 2)), ((0, 1), (0, 2))))
        self.assertIs(is_hold(house, ((0, 0),), 0), False)
        self.assertIs(is_hold(house, ((0, 0), (0, 2)), 0), True)
        self.assertIs(is_hold(house, ((0, 0), (0, 1), (0, 2)), 0), True)
        self.assertIs(is_hold(house, (), 0), False)

    def test_just_half_holds_nothing(self):
        house = (((KEPT,) * 2,), 1)
        self.assertEqual(least_holds(house, 0), (((0, 0), (0, 1)),))
        self.assertIs(is_hold(house, ((0, 1),), 0), False)

    def test_seats_that_fill_one_another(self):
        self.assertEqual(least_holds(ROUND, 0), (((0, 1), (0, 2)),))
        self.assertEqual([is_hold(ROUND, seats, 0) for seats in (((0, 0), (0, 1)), ((0, 0), (0, 2)))], [False, False])
        kept = ((tuple([(3, phase, ("rest", 0, "kept")) for phase in range(3)]),), 0)
        self.assertEqual(least_holds(kept, 0), (((0, 0), (0, 1)), ((0, 0), (0, 2)), ((0, 1), (0, 2))))

    def test_seats_of_wards_hold_nothing(self):
        house = (((WARD,) * 3,), 1)
        self.assertEqual(least_holds(house, 0), ())
        self.assertIs(is_hold(house, tuple(all_seats(house)), 0), False)

    def test_no_seats_hold_a_body_that_falls_to_a_by_itself(self):
        house = ((((1, 0, ("rest", 0, "a")),),), 1)
        self.assertEqual(least_holds(house, 0), ((),))
        self.assertIs(is_hold(house, (), 0), True)
        self.assertIs(is_hold(house, ((0, 0),), 0), True)

    def test_the_stand_ahead_of_all_years_need_not_have_a_majority(self):
        house = (((KEPT, (1, 0, ("body", 1, "b")), (1, 0, ("body", 1, "b"))), (KEPT,)), 0)
        self.assertIn(((1, 0),), least_holds(house, 0))
        self.assertIs(is_hold(house, ((1, 0),), 0), True)

    def test_each_year_counts_the_year_0_too(self):
        late = ((((2, 1, ("body", 1, "b")),), (KEPT,)), 0)
        self.assertIs(is_hold(late, ((1, 0),), 0), False)
        self.assertEqual(surely_from(late, ("b", "a"), (), 0), 1)
        self.assertEqual(least_holds(late, 0), (((0, 0), (1, 0)),))

    def test_one_body_by_another(self):
        house = ((((1, 0, ("body", 1, "b")),), (KEPT,) * 3), 1)
        self.assertEqual(least_holds(house, 0), (((1, 0), (1, 1)), ((1, 0), (1, 2)), ((1, 1), (1, 2))))
        self.assertEqual(least_holds(house, 1), least_holds(house, 0))

    def test_surely_from(self):
        self.assertEqual(surely_from(WARDS, ("bbb",), (0, 1), 0), 0)
        self.assertEqual(surely_from(WARDS, ("bbb",), (1,), 0), 1)
        self.assertEqual(surely_from(WARDS, ("baa",), (1,), 0), 0)
        self.assertIsNone(surely_from(WARDS, ("aaa",), (0,), 0))
        self.assertIsNone(surely_from(WARDS, ("aaa",), (), 0))
        self.assertEqual(least_helps(WARDS, ("bbb",), 0), ((1,),))

    def test_least_helps(self):
        house = ((tuple([(1, 0, ("ward", number)) for number in range(3)]),), 4)
        self.assertEqual(least_helps(house, ("bbb",), 0), ((0, 1), (0, 2), (1, 2)))
        self.assertEqual(least_helps((((KEPT,),), 2), ("a",), 0), ((),))
        self.assertEqual(least_helps((((KEPT,),), 2), ("b",), 0), ())
        self.assertEqual(least_helps((((KEPT,),), 0), ("a",), 0), ((),))
        self.assertEqual(least_helps((((KEPT,),), 0), ("b",), 0), ())
        self.assertEqual(least_helps(((((1, 0, ("ward", 3)),),), 4), ("b",), 0), ((3,),))

    def test_a_year_that_comes_again_and_again(self):
        # In each second year the seat falls to "b", whatever comes.
        swap = ((((1, 0, ("body", 1, "a")),), ((1, 0, ("body", 0, "a")),)), 0)
        self.assertIsNone(surely_from(swap, ("a", "b"), (), 0))
        self.assertEqual(surely_from(swap, ("a", "a"), (), 0), 0)

    def test_a_late_year(self):
        chain = ((((6, 5, ("body", 1, "b")),), ((6, 4, ("body", 2, "b")),), ((6, 3, ("ward", 0)),)), 1)
        self.assertEqual(surely_from(chain, ("b", "b", "b"), (0,), 2), 3)
        self.assertEqual(surely_from(chain, ("b", "b", "b"), (0,), 1), 4)
        self.assertEqual(surely_from(chain, ("b", "b", "b"), (0,), 0), 5)
        back = ((((6, 2, ("body", 1, "b")),), ((6, 3, ("body", 2, "b")),), ((6, 4, ("ward", 0)),)), 1)
        self.assertEqual(surely_from(back, ("b", "b", "b"), (0,), 0), 14)


class ByTrying(unittest.TestCase):
    def cases(self, seed, many):
        rng = random.Random(seed)
        for _ in range(many):
            bodies, wards = rng.randint(1, 3), rng.randint(0, 3)
            yield rng, small_house(rng, bodies, wards, rng.randint(bodies, 5))

    def test_holds(self):
        found = {}
        for rng, house in self.cases(71, 130):
            every = all_seats(house)
            for body in range(len(house[0])):
                does = {seats: holds_by_trying(house, seats, body) for seats in some_of(every)}
                least = least_holds(house, body)
                self.assertIs(type(least), tuple)
                self.assertEqual(least, least_by_trying(every, lambda seats: does[seats]))
                for seats in does:
                    self.assertIs(is_hold(house, seats, body), does[seats])
                found[len(least)] = found.get(len(least), 0) + 1
        for many in (0, 1, 2, 3):
            self.assertGreater(found[many], 4)

    def test_helps(self):
        found = {}
        for rng, house in self.cases(72, 200):
            stand = some_stand(rng, house)
            every = list(range(house[1]))
            for body in range(len(house[0])):
                years = {wards: surely_by_trying(house, stand, wards, body) for wards in some_of(every)}
                for wards in years:
                    told = surely_from(house, stand, wards, body)
                    self.assertEqual(told, years[wards])
                    found[told] = found.get(told, 0) + 1
                self.assertEqual(least_helps(house, stand, body),
                                 least_by_trying(every, lambda wards: years[wards] is not None))
        for year in (None, 0, 1, 2):
            self.assertGreater(found[year], 9)

    def test_stands_with_seats(self):
        rng = random.Random(73)
        for _ in range(100):
            house = some_house(rng)
            stand = some_stand(rng, house)
            seats = tuple([seat for seat in all_seats(house) if stand[seat[0]][seat[1]] == "a"])
            self.assertEqual(stand_with(house, seats), stand)

    def test_large_houses(self):
        rng = random.Random(74)
        for _ in range(12):
            house = some_house(rng)
            for body in range(len(house[0])):
                for seats in least_holds(house, body):
                    self.assertTrue(is_hold(house, seats, body))
                    for at in range(len(seats)):
                        self.assertFalse(is_hold(house, seats[:at] + seats[at + 1:], body))


class Wrong(unittest.TestCase):
    HOUSE = (((KEPT,) * 2, (KEPT,) * 3), 3)
    STAND = ("ab", "aab")

    def assert_refused(self, error, call, value):
        with self.assertRaises(error) as caught:
            call(value)
        self.assertIs(caught.exception.value, value)

    def calls_of_seats(self):
        return (lambda seats: stand_with(self.HOUSE, seats), lambda seats: is_hold(self.HOUSE, seats, 0),
                lambda seats: is_hold(self.HOUSE, seats, Hostile()))

    def calls_of_wards(self):
        return (lambda wards: surely_from(self.HOUSE, self.STAND, wards, 0),
                lambda wards: surely_from(self.HOUSE, self.STAND, wards, Hostile()))

    def test_seats(self):
        wrong = [((0, 0), (0, 0)), ((0, 1), (0, 0)), ((1, 0), (0, 0)), ((0, 2),), ((1, 3),), ((2, 0),), ((-1, 0),),
                 ((0, -1),), ((0, HUGE),), ((HUGE, 0),), ((0, True),), ((True, 0),), ((False, 0),), ((0, 0), (0, True)),
                 [(0, 0)], ([0, 0],), ((0, 0, 0),), ((0,),), (0, 0), ((0, 0), None), ("00",), ((0, "0"),), "", {},
                 {(0, 0)}, {(0, 0): 1}, iter(((0, 0),)), ((0, 0), (1, 0), (0, 1)), (((0, 0),),), ((None, 0),),
                 ((0, 0), (0, 1), (1, 0), (1, 1), (1, 2), (1, 3))]
        for call in self.calls_of_seats():
            for seats in wrong:
                self.assert_refused(BadSeats, call, seats)
            for thing in things():
                if not thing_is(thing, ()):
                    self.assert_refused(BadSeats, call, thing)
                if not thing_is(thing, (0, 0)) and not thing_is(thing, (1, 1)):
                    self.assert_refused(BadSeats, call, (thing,))
                if type(thing) is not int or not 0 <= thing <= 1:
                    self.assert_refused(BadSeats, call, ((0, thing),))
                    self.assert_refused(BadSeats, call, ((thing, 0),))
        for seats in some_of(all_seats(self.HOUSE)):
            for call in self.calls_of_seats()[:2]:
                call(seats)

    def test_wards(self):
        wrong = [(0, 0), (1, 0), (3,), (0, 1, 2, 3), (-1,), (-1, 0), (HUGE,), (True,), (0, True), (False,), (False, 1),
                 [0], [], {0}, {}, "0", ("0",), 0, None, ((0,),), (0, None), (0, 2, 1), range(1), iter((0,)), (2, 2)]
        for call in self.calls_of_wards():
            for wards in wrong:
                self.assert_refused(BadWards, call, wards)
            for thing in things():
                if not thing_is(thing, ()) and not thing_is(thing, (0,)):
                    self.assert_refused(BadWards, call, thing)
                if type(thing) is not int or not 0 <= thing <= 2:
                    self.assert_refused(BadWards, call, (thing,))
        for wards in some_of([0, 1, 2]):
            self.calls_of_wards()[0](wards)
        self.assert_refused(BadWards, lambda wards: surely_from((((KEPT,),), 0), ("a",), wards, 0), (0,))
        self.assertEqual(surely_from((((KEPT,),), 0), ("a",), (), 0), 0)

    def test_bodies(self):
        for body in [-1, 2, 3, HUGE, -HUGE, True, False] + things():
            if type(body) is int and 0 <= body <= 1:
                continue
            for call in (lambda one: is_hold(self.HOUSE, (), one), lambda one: least_holds(self.HOUSE, one),
                         lambda one: surely_from(self.HOUSE, self.STAND, (), one),
                         lambda one: least_helps(self.HOUSE, self.STAND, one)):
                self.assert_refused(BadNumber, call, body)

    def test_houses_and_stands(self):
        for thing in things():
            for call in (lambda: stand_with(thing, None), lambda: is_hold(thing, None, None),
                         lambda: least_holds(thing, None), lambda: surely_from(thing, None, None, None),
                         lambda: least_helps(thing, None, None)):
                with self.assertRaises(BadHouse):
                    call()
            self.assert_refused(BadStand, lambda one: surely_from(self.HOUSE, one, None, None), thing)
            self.assert_refused(BadStand, lambda one: surely_from(self.HOUSE, one, (), 0), thing)
            self.assert_refused(BadStand, lambda one: least_helps(self.HOUSE, one, None), thing)
            self.assert_refused(BadStand, lambda one: least_helps(self.HOUSE, one, 0), thing)


if __name__ == "__main__":
    unittest.main()
