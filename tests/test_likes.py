import itertools
import random
import unittest
from unittest import mock

from termseats import likes
from termseats.errors import BadBand, BadHouse, BadNumber, BadStand, TooGreat
from termseats.houses import need_house
from termseats.likes import are_alike, core, core_stand, hangs_on, parting_rows
from termseats.years import majorities, run
from tests import plain
from tests.refusing import BANDS_AMONG_THINGS, Refusing
from tests.test_states import TOO_MANY, TOO_MANY_CASE
from tests.things import BANDS, all_ways, replaced, small_house, some_house, some_letters, some_stand, things

ANY = (None, 1)
KEPT = (1, 0, ("kept",))
ONE = ((((1, 0, ("ward", 0)),),), 1)
# From here many states come, but not more than 20,000.
MANY = ((tuple([(2, place % 2, ("ward", place % 4)) for place in range(9)]),), 4)


def more_of(stand):
    return ["a" if row.count("a") > row.count("b") else "b" if row.count("b") > row.count("a") else "=" for row in stand]


def plain_levels(house, stand, other, far, band):
    """Lists of the pairs of states that come by 0, 1, .. choices and not by fewer, up to those ahead of a parting.

    Beside them the number of choices of the least parting, None if there is none.
    """
    level = [((stand, 0, "", ()), (far, 0, "", ()))]
    seen = set(level)
    levels = []
    while level:
        levels.append(level)
        fresh = []
        for state, beside in level:
            for choices, behind in plain.all_behind(house, band, state):
                pair = (behind, plain.behind(other, band, beside, choices))
                if more_of(pair[0][0]) != more_of(pair[1][0]):
                    return levels, len(levels)
                if pair not in seen:
                    seen.add(pair)
                    fresh.append(pair)
        level = fresh
    return levels, None


def near(rng, house):
    """A house with as many wards and bodies, of which one seat is otherwise, or one seat more or less."""
    bodies, wards = house
    at = rng.randrange(len(bodies))
    place = rng.randrange(len(bodies[at]))
    term = rng.choice([seat[0] for body in bodies for seat in body])
    seat = (term, rng.randrange(term), rng.choice(all_ways(len(bodies), wards)))
    row = bodies[at]
    changed = rng.choice([row[:place] + (seat,) + row[place + 1:]] * 4 + [row[:place] + (seat,) + row[place:], row[::-1]])
    return (bodies[:at] + (changed,) + bodies[at + 1:], wards)


def two_houses(seed, most_wards=3):
    """Pairs of houses that are near one another, or not, with stands and bands: (house, stand, other, far, band)."""
    rng = random.Random(seed)
    for wards in range(most_wards + 1):
        for bodies in (1, 2, 3):
            for band in [ANY] * 8 + BANDS if wards else [ANY] * 3 + BANDS[:6]:
                house = small_house(rng, bodies, wards, rng.randint(bodies, 4 if wards < 3 else 3))
                stand = some_stand(rng, house)
                other = rng.choice([near(rng, house)] * 3 + [house, small_house(rng, bodies, wards, bodies + 1)])
                far = stand if other[0] == house[0] and rng.random() < 0.3 else some_stand(rng, other)
                if [len(body) for body in other[0]] == [len(body) for body in house[0]] and rng.random() < 0.7:
                    far = stand
                yield house, stand, other, far, band


class Alike(unittest.TestCase):
    def assert_parting(self, case, many):
        """many is of how few choices the rows are behind which the majorities are unlike, None without any."""
        rows = parting_rows(*case)
        self.assertIs(are_alike(*case), many is None)
        if many is None:
            self.assertIsNone(rows)
            return
        house, stand, other, far, band = case
        self.assertIs(type(rows), tuple)
        self.assertEqual(len(rows), many)
        self.assertTrue(plain.is_within(band, rows))
        told = [more_of(one) for one in run(house, stand, rows)]
        others = [more_of(one) for one in run(other, far, rows)]
        self.assertEqual(told[:-1], others[:-1])
        self.assertNotEqual(told[-1], others[-1])

    def test_against_going_on_through_pairs_of_states(self):
        alike, parted = 0, []
        for seed in (101, 102, 103):
            for case in two_houses(seed):
                _, many = plain_levels(*case)
                self.assert_parting(case, many)
                alike += many is None
                parted.append(many or 0)
        self.assertGreater(alike, 60)
        self.assertGreater(len([many for many in parted if many >= 2]), 60)
        self.assertGreater(len([many for many in parted if many >= 4]), 5)

    def test_four_wards(self):
        rng = random.Random(104)
        for band in (ANY, (1, 1), (0, 2), (4, 1), (2, 2)):
            for _ in range(6):
                house = small_house(rng, 1, 4, 3)
                stand, other = some_stand(rng, house), near(rng, house)
                case = (house, stand, other, some_stand(rng, other), band)
                self.assert_parting(case, plain_levels(*case)[1])

    def test_a_house_with_itself(self):
        rng = random.Random(105)
        for _ in range(40):
            house = small_house(rng, rng.randint(1, 3), rng.randint(0, 2), 4)
            stand = some_stand(rng, house)
            for band in (ANY, (1, 2), (0, 1)):
                self.assert_parting((house, stand, house, stand, band), None)

    def test_by_hand(self):
        slow = ((((3, 2, ("ward", 0)),),), 1)
        # The seats are filled in the years 0, 1, 2, ..: unlike as soon as the ward turns away from the side "b".
        self.assertEqual(parting_rows(ONE, ("b",), slow, ("b",), ANY), ("a",))
        self.assertEqual(parting_rows(ONE, ("a",), slow, ("a",), ANY), ("b",))
        later = ((((3, 2, ("ward", 1)),),), 2)
        first = ((((3, 2, ("ward", 0)),),), 2)
        rows = parting_rows(first, ("a",), later, ("a",), ANY)
        self.assertEqual((len(rows), rows[2] in ("ab", "ba")), (3, True))
        # The letters are others, but the majority is the same.
        three = ((KEPT, KEPT, KEPT),)
        self.assertTrue(are_alike((three, 0), ("aab",), (three, 0), ("aba",), ANY))
        self.assertFalse(are_alike((three, 0), ("abb",), (three, 0), ("aba",), ANY))
        self.assertTrue(are_alike((((KEPT, KEPT),), 0), ("ab",), (((KEPT,) * 4,), 0), ("baba",), ANY))
        self.assertFalse(are_alike((((KEPT, KEPT),), 0), ("ab",), (((KEPT,) * 3,), 0), ("bab",), ANY))

    def test_what_the_band_lets_come(self):
        # Both tell the ward's side but the one of this year and the other one of the last time: unlike where it turns.
        now = ((((1, 0, ("ward", 0)),),), 1)
        late = ((((2, 0, ("ward", 0)),),), 1)
        self.assertEqual(len(parting_rows(now, ("a",), late, ("a",), ANY)), 2)
        self.assertEqual(len(parting_rows(now, ("a",), late, ("a",), (1, 2))), 2)
        self.assertIsNone(parting_rows(now, ("a",), late, ("a",), (0, 1)))
        # Two wards have to turn at once.
        two = ((((1, 0, ("ward", 0)), (1, 0, ("ward", 1)), (1, 0, ("ward", 2))),), 3)
        slow = ((((1, 0, ("ward", 0)), (2, 0, ("ward", 1)), (2, 0, ("ward", 2))),), 3)
        for band in BANDS:
            case = (two, ("aaa",), slow, ("aaa",), band)
            self.assert_parting(case, plain_levels(*case)[1])
        house = ((((2, 1, ("ward", 0)), (2, 0, ("ward", 0)), (1, 0, ("ward", 1))),), 2)
        for band in BANDS:
            for stand, far in (("aaa", "aaa"), ("bbb", "bbb"), ("aab", "baa")):
                case = (house, (stand,), ((house[0][0][::-1],), 2), (far,), band)
                self.assert_parting(case, plain_levels(*case)[1])

    def test_the_stands_ahead_of_all_years_do_not_count(self):
        self.assertTrue(are_alike(ONE, ("a",), ONE, ("b",), ANY))
        self.assertIsNone(parting_rows(ONE, ("a",), ONE, ("b",), (1, 1)))
        two = ((((2, 1, ("ward", 0)),),), 1)
        # Here the stands are there behind the year 0, too.
        self.assertEqual(len(parting_rows(two, ("a",), two, ("b",), ANY)), 1)

    def test_rounds_of_which_none_goes_into_the_other_one(self):
        rng = random.Random(106)
        for first, second in itertools.permutations((2, 3, 4, 5, 6), 2):
            house = ((((first, rng.randrange(first), ("ward", 0)), (1, 0, ("body", 0, "kept"))),), 1)
            other = ((((second, rng.randrange(second), ("ward", 0)), (1, 0, ("body", 0, "kept"))),), 1)
            for band in (ANY, (1, 2)):
                case = (house, ("ab",), other, ("ab",), band)
                self.assert_parting(case, plain_levels(*case)[1])
            house = ((((first, 0, ("kept",)),) * 2,), 1)
            other = ((((second, 1, ("body", 0, "kept")),) * 2,), 1)
            self.assert_parting((house, ("ab",), other, ("ab",), ANY), None)

    def test_unlike_behind_the_last_year_of_both_rounds_alone(self):
        # Only in the years 5, 11, .. a seat of the one comes up with one of the other house.
        house = ((((2, 1, ("rest", 0, "b")), (1, 0, ("kept",)), (1, 0, ("kept",))),), 0)
        other = ((((3, 2, ("rest", 0, "b")), (1, 0, ("kept",)), (1, 0, ("kept",))),), 0)
        self.assertEqual(parting_rows(house, ("aab",), other, ("aab",), ANY), ("", ""))
        self.assert_parting((house, ("bab",), other, ("bab",), ANY), None)


class RefusedTwo(Refusing):
    def test_the_order(self):
        errors = (BadHouse, BadStand, BadHouse, BadStand, BadBand)
        house = ((((1, 0, ("ward", 0)), KEPT),), 1)
        for function in (are_alike, parting_rows):
            self.assert_first(function, (ONE, ("a",), house, ("ab",), ANY), errors)
            self.assert_things(function, (ONE, ("a",), house, ("ab",), ANY), errors, BANDS_AMONG_THINGS + [("a",)])

    def test_places_of_both_houses(self):
        wrong = ((((1, 0, ("ward", 0)), (1, 1, ("ward", 0))),), 1)
        for function in (are_alike, parting_rows):
            self.assert_refused(BadHouse, "place", (0, 1), function, wrong, None, None, None, None)
            self.assert_refused(BadHouse, "place", (0, 1), function, ONE, ("a",), wrong, None, None)
            self.assert_refused(BadHouse, "place", "wards", function, ONE, ("a",), (ONE[0], 5), None, None)
            self.assert_refused(BadStand, "value", ("b",), function, ((((KEPT,) * 2),), 0), ("b",), wrong, None, None)
            self.assert_refused(BadBand, "part", "gap", function, ONE, ("a",), ONE, ("b",), (None, 5))

    def test_unlike_houses(self):
        shapes = [(((KEPT,),) * bodies, wards) for bodies in (1, 2, 3) for wards in range(5)]
        for house, other in itertools.product(shapes, repeat=2):
            stand, far = ("a",) * len(house[0]), ("b",) * len(other[0])
            for function in (are_alike, parting_rows):
                if (len(house[0]), house[1]) == (len(other[0]), other[1]):
                    function(house, stand, other, far, ANY)
                    continue
                for band in (ANY, None, (None, 5)):
                    self.assert_refused(BadHouse, "place", "unlike", function, house, stand, other, far, band)
                # What is listed ahead of it is due ahead of it.
                self.assert_refused(BadStand, "value", ("c",), function, house, stand, other, ("c",), ANY)
                self.assert_refused(BadStand, "value", None, function, house, None, other, far, ANY)
                self.assert_refused(BadHouse, "place", "form", function, house, stand, None, far, ANY)

    def test_as_many_seats_are_not_asked_for(self):
        house = (((KEPT,), (KEPT,) * 3), 0)
        other = (((KEPT,) * 4, (KEPT,) * 2), 0)
        self.assertFalse(are_alike(house, ("a", "aab"), other, ("aaaa", "ab"), ANY))
        self.assertTrue(are_alike(house, ("a", "aab"), other, ("aaab", "aa"), ANY))


class TooMany(Refusing):
    def test_just_as_many_as_may_come(self):
        raised = 0
        for case in itertools.islice(two_houses(107, 2), 0, None, 2):
            levels, many = plain_levels(*case)
            come = sum([len(level) for level in levels])
            told = parting_rows(*case)
            with mock.patch.object(likes, "MOST_STATES", come):
                self.assertEqual(parting_rows(*case), told)
                self.assertIs(are_alike(*case), many is None)
            # Rows of one choice have only the first pair ahead of them.
            with mock.patch.object(likes, "MOST_STATES", come - 1):
                if come > 1:
                    raised += 1
                    self.assert_refused(TooGreat, "most", come - 1, parting_rows, *case)
                    self.assert_refused(TooGreat, "most", come - 1, are_alike, *case)
        self.assertGreater(raised, 40)

    def test_20001_pairs(self):
        _, stand, band = TOO_MANY_CASE
        for function in (are_alike, parting_rows):
            self.assert_refused(TooGreat, "most", 20000, function, TOO_MANY, stand, TOO_MANY, stand, band)
            self.assert_refused(BadBand, "part", "gap", function, TOO_MANY, stand, TOO_MANY, stand, (2, 5))
            self.assert_refused(BadHouse, "place", "unlike", function, TOO_MANY, stand, ONE, ("a",), band)

    def test_many_come_but_only_later(self):
        _, stand, band = TOO_MANY_CASE
        # Another seat of the last body: its majority is soon another one.
        other = (TOO_MANY[0][:2] + (((5, 3, ("ward", 0)),),), 4)
        rows = parting_rows(TOO_MANY, stand, other, stand, band)
        self.assertEqual(len(rows), 2)
        self.assertFalse(are_alike(TOO_MANY, stand, other, stand, band))

    def test_many_but_not_too_many_pairs(self):
        self.assertTrue(are_alike(MANY, ("a" * 9,), MANY, ("a" * 9,), (None, 4)))


def plain_under(house, body):
    """The bodies on which one hangs: step by step until none is new."""
    found = {body}
    while True:
        more = found | {way[1] for number in found for _, _, way in house[0][number] if way[0] in ("body", "rest")}
        if more == found:
            return tuple(sorted(found))
        found = more


class Hanging(Refusing):
    def test_all_ways_to_hang_on_one_another(self):
        # Each body has a seat by each of the bodies of a set, in all ways for two and for three bodies.
        for bodies in (1, 2, 3):
            sets = [some for many in range(bodies + 1) for some in itertools.combinations(range(bodies), many)]
            for word, chosen in itertools.product(("body", "rest"), itertools.product(sets, repeat=bodies)):
                if sum([len(some) + 1 for some in chosen]) > 9:
                    continue
                house = (tuple([
                    tuple([(1, 0, (word, body, "kept")) for body in some]) + (KEPT,) for some in chosen]), 1)
                for body in range(bodies):
                    self.assert_core(house, body)

    def assert_core(self, house, body):
        under = plain_under(house, body)
        self.assertEqual(hangs_on(house, body), under)
        self.assertIs(type(hangs_on(house, body)), tuple)
        told, number = core(house, body)
        self.assertIs(need_house(told), told)
        self.assertEqual(number, under.index(body))
        self.assertEqual(told[1], house[1])
        self.assertEqual(len(told[0]), len(under))
        for old, seats in zip(under, told[0]):
            self.assertEqual(len(seats), len(house[0][old]))
            for seat, other in zip(seats, house[0][old]):
                self.assertEqual(seat[:2], other[:2])
                if other[2][0] in ("body", "rest"):
                    self.assertEqual(seat[2], (other[2][0], under.index(other[2][1]), other[2][2]))
                else:
                    self.assertEqual(seat[2], other[2])

    def test_by_hand(self):
        chain = ((((1, 0, ("body", 1, "a")),), ((1, 0, ("rest", 2, "b")),), ((2, 1, ("ward", 0)),)), 1)
        self.assertEqual([hangs_on(chain, body) for body in range(3)], [(0, 1, 2), (1, 2), (2,)])
        self.assertEqual(core(chain, 0), (chain, 0))
        self.assertEqual(core(chain, 1), (((((1, 0, ("rest", 1, "b")),), ((2, 1, ("ward", 0)),)), 1), 0))
        self.assertEqual(core(chain, 2), (((((2, 1, ("ward", 0)),),), 1), 0))
        self.assertEqual(core_stand(chain, ("a", "b", "a"), 1), ("b", "a"))
        turned = (chain[0][2:] + (((1, 0, ("body", 0, "a")),), ((1, 0, ("kept",)),)), 4)
        self.assertEqual([hangs_on(turned, body) for body in range(3)], [(0,), (0, 1), (2,)])
        self.assertEqual(core(turned, 1), ((turned[0][:2], 4), 1))
        self.assertEqual(core_stand(turned, ("a", "b", "a"), 2), ("a",))
        ring = (tuple([((1, 0, ("rest", (body + 1) % 3, "kept")),) for body in range(3)]), 0)
        for body in range(3):
            self.assertEqual(hangs_on(ring, body), (0, 1, 2))
            self.assertEqual(core(ring, body), (ring, body))
        itself = ((((1, 0, ("kept",)),), ((1, 0, ("body", 1, "kept")), (1, 0, ("rest", 1, "a")))), 2)
        self.assertEqual(hangs_on(itself, 1), (1,))
        self.assertEqual(core(itself, 1), (((((1, 0, ("body", 0, "kept")), (1, 0, ("rest", 0, "a"))),), 2), 0))

    def test_the_core_goes_as_the_house_goes(self):
        rng = random.Random(108)
        smaller = 0
        for _ in range(300):
            house = some_house(rng)
            stand = some_stand(rng, house)
            rows = [some_letters(rng, house[1]) for _ in range(26)]
            stands = run(house, stand, rows)
            for body in range(len(house[0])):
                self.assert_core(house, body)
                under = hangs_on(house, body)
                told, number = core(house, body)
                begun = core_stand(house, stand, body)
                self.assertEqual(begun, tuple([stand[one] for one in under]))
                smaller += len(under) < len(house[0])
                for behind, whole in zip(run(told, begun, rows), stands):
                    self.assertEqual(behind, tuple([whole[one] for one in under]))
                    self.assertEqual(majorities(told, behind)[number], majorities(house, whole)[body])
        self.assertGreater(smaller, 100)

    def test_refused(self):
        house = ((((1, 0, ("body", 1, "a")),), (KEPT,)), 1)
        for function in (hangs_on, core):
            self.assert_first(function, (house, 1), (BadHouse, BadNumber))
            self.assert_things(function, (house, 1), (BadHouse, BadNumber), [0])
            for body in (-1, 2, 3, True, "0", None):
                self.assert_refused(BadNumber, "value", body, function, house, body)
        self.assert_first(core_stand, (house, ("a", "b"), 1), (BadHouse, BadStand, BadNumber))
        self.assert_things(core_stand, (house, ("b", "b"), 1), (BadHouse, BadStand, BadNumber), [0, ("a", "b")])
        self.assert_refused(BadStand, "value", ("a",), core_stand, house, ("a",), 5)


if __name__ == "__main__":
    unittest.main()
