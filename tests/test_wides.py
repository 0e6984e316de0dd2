import itertools
import random
import unittest

from termseats.errors import BadChoices, BadNumber, BadStand, BadWide
from termseats.houses import need_house
from termseats.wides import (
    go_alike, like_sizes, need_wide, pattern, sizes, wide_majorities, wide_run)
from termseats.years import majorities, run
from tests.plain import round_of
from tests.refusing import Refusing, is_just
from tests.things import CHARACTERS, HUGE, all_ways, replaced, some_letters, some_stand, things

MOST = 10 ** 30
GROUP = (1, 0, ("kept",), 1)
# Three bodies with each WAY, the least and the greatest numbers among them.
WIDE = (
    (
        ((6, 5, ("ward", 3), MOST), (4, 0, ("body", 2, "kept"), 1), (1, 0, ("kept",), 7)),
        ((3, 2, ("rest", 0, "a"), 10 ** 9),),
        ((2, 1, ("body", 1, "b"), 2), (4, 3, ("ward", 0), 3), (2, 0, ("rest", 2, "kept"), 5), (1, 0, ("body", 0, "a"), 1)),
    ),
    4,
)
GROUP_PLACES = [(body, place) for body, groups in enumerate(WIDE[0]) for place in range(len(groups))]


def some_wide(rng, most, bodies=None, wards=None):
    """A wide house of groups of at most so many seats."""
    wards = rng.randint(0, 4) if wards is None else wards
    bodies = bodies or rng.randint(1, 3)
    terms = rng.choice([(1, 2, 3, 4, 6), (1, 2, 5), (1,), (2,), (1, 2, 3), (3, 4)])
    ways = all_ways(bodies, wards)
    whole = []
    for _ in range(bodies):
        chosen = [rng.choice(terms) for _ in range(rng.randint(1, 4))]
        whole.append(tuple([(term, rng.randrange(term), rng.choice(ways), rng.randint(1, most)) for term in chosen]))
    return (tuple(whole), wards)


def more_of(pairs):
    """The side that has more by pairs of a letter and how many seats have it, "=" if none has."""
    has = {"a": 0, "b": 0}
    for letter, many in pairs:
        has[letter] += many
    return "=" if has["a"] == has["b"] else max("ab", key=has.get)


def wide_by_the_document(wide, stand, number, choices):
    """The stand behind a year, each letter counting as often as its group has seats."""
    bodies = wide[0]
    behind = []
    for groups, letters in zip(bodies, stand):
        row = ""
        for (term, phase, way, _), side in zip(groups, letters):
            if number % term != phase or way[0] == "kept":
                row += side
            elif way[0] == "ward":
                row += choices[way[1]]
            else:
                told = more_of([
                    (letter, group[3]) for letter, group in zip(stand[way[1]], bodies[way[1]])
                    if way[0] == "body" or number % group[0] != group[1]])
                row += told if told != "=" else side if way[2] == "kept" else way[2]
        behind.append(row)
    return tuple(behind)


def one_by_one(wide):
    """The house with all seats of the groups one by one."""
    bodies, wards = wide
    return (tuple([tuple([group[:3] for group in groups for _ in range(group[3])]) for groups in bodies]), wards)


def stand_one_by_one(wide, stand):
    return tuple(["".join([letter * group[3] for letter, group in zip(letters, groups)])
                  for letters, groups in zip(stand, wide[0])])


def of_sizes(*bodies):
    """A wide house with the sizes of its bodies."""
    return (tuple([tuple([(1, 0, ("kept",), many) for many in body]) for body in bodies]), 0)


def body_pattern(many):
    """The string of a body in the pattern, lot by lot."""
    told = ""
    for lot in itertools.product("-ab", repeat=len(many)):
        told += more_of([(sign, size) for sign, size in zip(lot, many) if sign != "-"])
    return told


def like_by_trying(many, greatest):
    told = body_pattern(many)
    rows = [row for row in itertools.product(range(1, greatest + 1), repeat=len(many)) if body_pattern(row) == told]
    least = min([sum(row) for row in rows], default=None)
    return next((row for row in rows if sum(row) == least), None)


class NeedWide(Refusing):
    def assert_right(self, wide):
        self.assertIs(need_wide(wide), wide)
        self.assertIs(need_wide(wide=wide), wide)

    def assert_wrong(self, wide, place):
        for call in (need_wide, sizes, pattern, lambda wide: wide_run(wide, None, None),
                     lambda wide: wide_majorities(wide, None), lambda wide: like_sizes(wide, None),
                     lambda wide: go_alike(wide, None), lambda wide: go_alike(WIDE, wide)):
            self.assert_refused(BadWide, "place", place, call, wide)

    def test_right_ones(self):
        self.assert_right(WIDE)
        rng = random.Random(110)
        for _ in range(300):
            self.assert_right(some_wide(rng, rng.choice((1, 9, MOST))))
        # There may be far more than nine seats, and more than nine groups.
        self.assert_right((((GROUP,) * 4,) * 3, 0))

    def test_numbers_of_wards_bodies_and_groups(self):
        for wards in range(-1, 7):
            (self.assert_right if 0 <= wards <= 4 else lambda wide: self.assert_wrong(wide, "wards"))(
                (((GROUP,),), wards))
        for bodies in range(6):
            wide = (((GROUP,),) * bodies, 0)
            self.assert_right(wide) if 1 <= bodies <= 3 else self.assert_wrong(wide, "bodies")
        for groups in range(12):
            for place in range(3):
                wide = (((GROUP,),) * place + ((GROUP,) * groups,) + ((GROUP,),) * (2 - place), 0)
                self.assert_right(wide) if 1 <= groups <= 4 else self.assert_wrong(wide, (place,))

    def test_how_many_seats(self):
        for many in (1, 2, 9, 10, 10 ** 9, MOST - 1, MOST):
            self.assert_right((((GROUP, GROUP[:3] + (many,)),), 0))
        for many in (0, -1, -MOST, MOST + 1, HUGE, -HUGE, True, False, None, "1", (1,), b"1"):
            self.assert_wrong((((GROUP, GROUP[:3] + (many,)),), 0), (0, 1))

    def test_terms_phases_and_ways(self):
        for term, phase in itertools.product(range(-1, 9), range(-2, 9)):
            wide = (((GROUP, (term, phase, ("kept",), 3)),), 0)
            self.assert_right(wide) if 1 <= term <= 6 and 0 <= phase < term else self.assert_wrong(wide, (0, 1))
        for bodies, wards in itertools.product((1, 2, 3), range(5)):
            rest = ((GROUP,),) * (bodies - 1)
            for way in all_ways(bodies, wards):
                self.assert_right((rest + (((2, 1, way, 4),),), wards))
            for way in (("ward", wards), ("ward", -1), ("body", bodies, "a"), ("rest", bodies, "kept"), ("rest", -1, "a"),
                        ("body", 0), ("body", 0, "c"), ("kept", 0), ("kept",) * 2, (), "kept", ["kept"], None):
                self.assert_wrong((rest + (((2, 1, way, 4),),), wards), (bodies - 1, 0))

    def test_groups_are_no_seats_and_seats_are_no_groups(self):
        for thing in ((1, 0, ("kept",)), (1, 0, ("kept",), 1, 1), [1, 0, ("kept",), 1], ((1, 0, ("kept",)), 1), GROUP[::-1]):
            self.assert_wrong((((GROUP,), (GROUP, thing)), 0), (1, 1))

    def test_rounds(self):
        for terms in itertools.product(range(1, 7), repeat=3):
            wides = [tuple([tuple([(term, 0, ("kept",), 2) for term in body]) for body in bodies])
                     for bodies in ([terms], [terms[:1], terms[1:]], [[term] for term in terms])]
            for bodies in wides:
                right = any(many % terms[0] == many % terms[1] == many % terms[2] == 0 for many in range(1, 13))
                self.assert_right((bodies, 0)) if right else self.assert_wrong((bodies, 0), "round")

    def test_things_of_every_kind_in_each_place(self):
        for thing in things():
            if not (isinstance(thing, tuple) and len(thing) == 2):
                self.assert_wrong(thing, "form")
            if not (type(thing) is int and 0 <= thing <= 4):
                self.assert_wrong((WIDE[0], thing), "wards")
            if not (isinstance(thing, tuple) and 1 <= len(thing) <= 3):
                self.assert_wrong((thing, 4), "bodies")
            for body in range(3):
                wide = replaced(WIDE, (0, body), thing)
                inner = isinstance(thing, tuple) and 1 <= len(thing) <= 4
                self.assert_wrong(wide, (body, 0) if inner else (body,))
            for place in GROUP_PLACES:
                self.assert_wrong(replaced(WIDE, (0,) + place, thing), place)
                many = replaced(WIDE, (0,) + place + (3,), thing)
                right = type(thing) is int and 1 <= thing <= MOST
                self.assert_right(many) if right else self.assert_wrong(many, place)
                for at in (0, 1, 2):
                    if not is_just(thing, WIDE[0][place[0]][place[1]][at]) and not isinstance(thing, (int, tuple)):
                        self.assert_wrong(replaced(WIDE, (0,) + place + (at,), thing), place)
            self.assert_wrong(replaced(WIDE, (0, 0, 0, 0), bool(len(GROUP))), (0, 0))

    def test_the_first_of_several_wrong_parts(self):
        round_60 = (((4, 0, ("kept",), 1), (5, 0, ("kept",), 1), (3, 0, ("kept",), 1)),)
        self.assert_wrong((None, None, None), "form")
        for bodies in (None, (), ((),), (None,), ((None,),), round_60, ((GROUP,),) * 4):
            for wards in (None, -1, 5, True):
                self.assert_wrong((bodies, wards), "wards")
        self.assert_wrong(((None,) * 4, 0), "bodies")
        self.assert_wrong((round_60 * 4, 0), "bodies")
        self.assert_wrong((((None,) * 5, None), 0), (0,))
        self.assert_wrong((((None,) * 4, None), 0), (0, 0))
        self.assert_wrong((((GROUP,), (GROUP, None), None), 0), (1, 1))
        self.assert_wrong((((GROUP,), (), (None,)), 0), (1,))
        self.assert_wrong((round_60 + ((None,),), 0), (1, 0))
        self.assert_wrong((round_60 + ((GROUP,) * 5,), 0), (1,))
        self.assert_wrong((round_60 + ((GROUP,),), 0), "round")
        for first, second in itertools.combinations(GROUP_PLACES, 2):
            wide = replaced(replaced(WIDE, (0,) + first + (3,), 0), (0,) + second, None)
            self.assert_wrong(wide, first)


class Sizes(unittest.TestCase):
    def test_of_all_sorts(self):
        self.assertEqual(sizes(WIDE), ((MOST, 1, 7), (10 ** 9,), (2, 3, 5, 1)))
        rng = random.Random(111)
        for _ in range(100):
            wide = some_wide(rng, rng.choice((3, MOST)))
            self.assertEqual(sizes(wide), tuple([tuple([group[3] for group in groups]) for groups in wide[0]]))


class Patterns(unittest.TestCase):
    def test_by_hand(self):
        self.assertEqual(pattern(of_sizes((1,))), ("=ab",))
        self.assertEqual(pattern(of_sizes((MOST,))), ("=ab",))
        self.assertEqual(pattern(of_sizes((2, 2))), ("=abaa=b=b",))
        self.assertEqual(pattern(of_sizes((2, 1), (1,), (1, 2))), ("=abaaabbb", "=ab", "=abaabbab"))
        self.assertEqual(pattern(of_sizes((MOST, MOST - 1), (MOST - 1, MOST), (MOST, MOST))),
                         ("=abaaabbb", "=abaabbab", "=abaa=b=b"))

    def test_lot_by_lot(self):
        rng = random.Random(112)
        for groups in (1, 2, 3, 4):
            for most in (2, 3, 9, 10 ** 6, MOST):
                for _ in range(8):
                    rows = [[rng.randint(1, most) for _ in range(groups)] for _ in range(rng.randint(1, 3))]
                    told = pattern(of_sizes(*rows))
                    self.assertEqual(told, tuple([body_pattern(row) for row in rows]))
                    self.assertEqual([len(row) for row in told], [3 ** groups] * len(rows))

    def test_ties_of_great_numbers(self):
        # The sum of two groups is just the third one, or one more or less.
        for more in (-1, 0, 1):
            row = (MOST, 10 ** 29, MOST - 10 ** 29 + more)
            told = pattern(of_sizes(row))[0]
            lots = ["".join(lot) for lot in itertools.product("-ab", repeat=3)]
            self.assertEqual(told[lots.index("abb")], "a=b"[more + 1])
            self.assertEqual(told[lots.index("baa")], "b=a"[more + 1])
            self.assertEqual(told, body_pattern(row))

    def test_what_comes_up_and_the_ways_do_not_count(self):
        rng = random.Random(113)
        for _ in range(30):
            wide = some_wide(rng, 5)
            self.assertEqual(pattern(wide), pattern(of_sizes(*sizes(wide))))


class WideYears(Refusing):
    def test_word_by_word(self):
        rng = random.Random(114)
        for _ in range(250):
            wide = some_wide(rng, rng.choice((1, 2, 3, 10, MOST)))
            stand = some_stand(rng, wide)
            rows = [some_letters(rng, wide[1]) for _ in range(rng.choice((0, 1, 13, 30)))]
            told, now = [], stand
            for number, choices in enumerate(rows):
                now = wide_by_the_document(wide, now, number, choices)
                told.append(now)
            self.assertEqual(wide_run(wide, stand, rows), tuple(told))
            self.assertEqual(wide_run(wide, stand, tuple(rows)), tuple(told))
            self.assertEqual(wide_majorities(wide, stand), tuple([
                more_of([(letter, group[3]) for letter, group in zip(letters, groups)])
                for letters, groups in zip(stand, wide[0])]))

    def test_seats_one_by_one(self):
        rng = random.Random(115)
        found = 0
        while found < 150:
            wide = some_wide(rng, 4)
            if sum([sum(row) for row in sizes(wide)]) > 9:
                continue
            found += 1
            house, stand = need_house(one_by_one(wide)), some_stand(rng, wide)
            rows = [some_letters(rng, wide[1]) for _ in range(15)]
            stands = wide_run(wide, stand, rows)
            self.assertEqual(run(house, stand_one_by_one(wide, stand), rows),
                             tuple([stand_one_by_one(wide, one) for one in stands]))
            for one in (stand,) + stands:
                self.assertEqual(wide_majorities(wide, one), majorities(house, stand_one_by_one(wide, one)))

    def test_each_way_by_great_numbers(self):
        for way, tie in itertools.product(("body", "rest"), ("a", "b", "kept")):
            for more in (-1, 0, 1):
                groups = ((1, 0, (way, 1, tie), 1),)
                others = ((2, 1, ("kept",), MOST - 1), (2, 1, ("kept",), 1 + more), (2, 0, ("kept",), 10 ** 20))
                wide = ((groups, others, ((1, 0, ("kept",), MOST),)), 0)
                for side, last in itertools.product("ab", repeat=2):
                    stand = (side, "ab" + last, "a")
                    # In the year 0 the third group comes up, so the rest is the first two.
                    pairs = [("a", MOST - 1), ("b", 1 + more)]
                    told = more_of([pair for pair in pairs if pair[1] > 0] + ([(last, 10 ** 20)] if way == "body" else []))
                    if 1 + more == 0:
                        self.assert_refused(BadWide, "place", (1, 1), wide_run, wide, stand, [""])
                        continue
                    told = told if told != "=" else side if tie == "kept" else tie
                    self.assertEqual(wide_run(wide, stand, [""]), ((told, "ab" + last, "a"),))

    def test_one_seat_decides(self):
        for many, told in ((MOST - 2, "a"), (MOST - 1, "b"), (MOST, "b")):
            wide = ((((1, 0, ("body", 1, "b"), 5),), ((1, 0, ("kept",), MOST - 1), (1, 0, ("kept",), many))), 0)
            self.assertEqual(wide_run(wide, ("b", "ab"), ("",)), ((told, "ab"),))
            self.assertEqual(wide_majorities(wide, ("b", "ab")), ("b", "a" if told == "a" else "b" if many == MOST else "="))
        wide = ((((1, 0, ("kept",), MOST), (1, 0, ("kept",), MOST - 1), (1, 0, ("kept",), 1)),), 4)
        self.assertEqual(wide_majorities(wide, ("abb",)), ("=",))
        self.assertEqual(wide_majorities(wide, ("aba",)), ("a",))
        self.assertEqual(wide_majorities(wide, ("bab",)), ("b",))

    def test_rows_of_0_and_of_400_choices(self):
        rng = random.Random(116)
        for _ in range(8):
            wide = some_wide(rng, MOST)
            stand = some_stand(rng, wide)
            self.assertEqual(wide_run(wide, stand, []), ())
            self.assertEqual(wide_run(wide, stand, ()), ())
            rows = [some_letters(rng, wide[1]) for _ in range(400)]
            told = wide_run(wide, stand, rows)
            self.assertEqual(wide_run(wide, stand, tuple(rows)), told)
            self.assertEqual(len(told), 400)
            for number in range(1, 400):
                self.assertEqual(told[number], wide_by_the_document(wide, told[number - 1], number, rows[number]))
            for many in (401, 500):
                for more in (["a" * wide[1]] * many, (None,) * many):
                    self.assert_refused(BadChoices, "place", None, wide_run, wide, stand, more)

    def test_wrong_rows(self):
        wide = (((GROUP,),), 1)
        call = lambda rows: wide_run(wide, ("a",), rows)
        for thing in things():
            if isinstance(thing, (list, tuple)):
                wrong = [place for place, one in enumerate(thing) if not isinstance(one, str) or one not in ("a", "b")]
                if wrong:
                    self.assert_refused(BadChoices, "place", wrong[0], call, thing)
                else:
                    self.assertEqual(call(thing), (("a",),) * len(thing))
            else:
                self.assert_refused(BadChoices, "place", None, call, thing)
            for place in (0, 3, 399):
                if not is_just(thing, "a") and not is_just(thing, "b"):
                    rows = ["a"] * place + [thing] + [None] * (399 - place)
                    self.assert_refused(BadChoices, "place", place, call, rows)
        for sign in CHARACTERS:
            if sign not in "ab":
                self.assert_refused(BadChoices, "place", 1, call, ["a", sign])

    def test_wrong_stands(self):
        rng = random.Random(117)
        for _ in range(30):
            wide = some_wide(rng, 9)
            stand = some_stand(rng, wide)
            for wrong in (stand + ("a",), stand[:-1], list(stand), ("".join(stand), None), stand[:-1] + (stand[-1] + "a",),
                          stand[:-1] + (stand[-1][1:],), stand[:-1] + (stand[-1][:-1] + "c",), stand_one_by_one(wide, stand)):
                if wrong == stand:
                    continue
                for call in (lambda: wide_run(wide, wrong, None), lambda: wide_majorities(wide, wrong)):
                    with self.assertRaises(BadStand) as caught:
                        call()
                    self.assertIs(caught.exception.value, wrong)

    def test_the_order(self):
        wide = (((GROUP,),), 1)
        self.assert_first(wide_run, (wide, ("a",), ["a"]), (BadWide, BadStand, BadChoices))
        self.assert_things(wide_run, (wide, ("b",), ["a"]), (BadWide, BadStand, BadChoices), [(), [], ["a"], ("a",), ["a", "b"], ("a", "b")])
        self.assert_first(wide_majorities, (wide, ("a",)), (BadWide, BadStand))
        self.assert_things(wide_majorities, (wide, ("a",)), (BadWide, BadStand))
        self.assert_first(like_sizes, (wide, 9), (BadWide, BadNumber))
        self.assert_things(like_sizes, (wide, 9), (BadWide, BadNumber), range(1, 10))
        self.assert_first(go_alike, (wide, wide), (BadWide, BadWide))
        self.assert_things(go_alike, (wide, wide), (BadWide, BadWide))


class LikeSizes(Refusing):
    def test_against_trying_all_sizes(self):
        rng = random.Random(118)
        none, great = 0, 0
        for greatest in range(1, 10):
            for groups in (1, 2, 3) if greatest > 5 else (1, 2, 3, 4):
                for most in (2, 3, 6, 12, MOST):
                    row = [rng.randint(1, most) for _ in range(groups)]
                    told = like_sizes(of_sizes(row), greatest)
                    self.assertEqual(told, (like_by_trying(row, greatest),))
                    none += told == (None,)
        for greatest in (6, 9):
            for row in ((10, 20, 40, 80), (7, 9, 10, 11), (MOST, MOST, 1, 1), (5, 6, 7, 17)):
                told = like_sizes(of_sizes(row), greatest)
                self.assertEqual(told, (like_by_trying(row, greatest),))
                great += told != (None,)
        self.assertGreater(min(none, great), 4)

    def test_by_hand(self):
        self.assertEqual(like_sizes(of_sizes((MOST,)), 1), ((1,),))
        self.assertEqual(like_sizes(of_sizes((5, 5)), 1), ((1, 1),))
        self.assertEqual(like_sizes(of_sizes((5, 4)), 1), (None,))
        self.assertEqual(like_sizes(of_sizes((MOST, MOST - 1, 1)), 1), (None,))
        self.assertEqual(like_sizes(of_sizes((MOST, MOST - 1, 1)), 9), ((3, 2, 1),))
        self.assertEqual(like_sizes(of_sizes((80, 40, 20, 10)), 8), ((8, 4, 2, 1),))
        self.assertEqual(like_sizes(of_sizes((80, 40, 20, 10)), 7), (None,))
        self.assertEqual(like_sizes(of_sizes((8, 3, 1), (9, 9), (2, 1)), 4), ((4, 2, 1), (1, 1), (2, 1)))
        self.assertEqual(like_sizes(of_sizes((8, 3, 1), (9, 9), (2, 1)), 3), (None, (1, 1), (2, 1)))
        self.assertEqual(like_sizes(of_sizes((9, 9), (8, 3, 1), (2, 1)), 1), ((1, 1), None, None))

    def test_each_greatest(self):
        for greatest in range(1, 10):
            told = like_sizes(of_sizes((9 * 10 ** 20, 8 * 10 ** 20)), greatest)
            self.assertEqual(told, ((2, 1),) if greatest > 1 else (None,))
        for greatest in (0, 10, -1, HUGE, True, False, None, "5"):
            self.assert_refused(BadNumber, "value", greatest, like_sizes, WIDE, greatest)

    def test_with_the_like_sizes_it_goes_the_same_way(self):
        rng = random.Random(119)
        found = 0
        for _ in range(80):
            wide = some_wide(rng, rng.choice((4, 9, 20, MOST)))
            told = like_sizes(wide, 5)
            if None in told:
                continue
            found += told != sizes(wide)
            small = (tuple([tuple([group[:3] + (many,) for group, many in zip(groups, row)])
                            for groups, row in zip(wide[0], told)]), wide[1])
            self.assertIs(go_alike(wide, small), True)
            stand = some_stand(rng, wide)
            rows = [some_letters(rng, wide[1]) for _ in range(24)]
            self.assertEqual(wide_run(small, stand, rows), wide_run(wide, stand, rows))
            self.assertEqual(wide_majorities(small, stand), wide_majorities(wide, stand))
        self.assertGreater(found, 15)


class GoAlike(unittest.TestCase):
    def assert_alike(self, wide, other, told):
        self.assertIs(go_alike(wide, other), told)
        self.assertIs(go_alike(other, wide), told)

    def with_sizes(self, wide, rows):
        return (tuple([tuple([group[:3] + (many,) for group, many in zip(groups, row)])
                       for groups, row in zip(wide[0], rows)]), wide[1])

    def test_other_numbers_of_seats(self):
        rng = random.Random(120)
        alike = unlike = 0
        for _ in range(200):
            wide = some_wide(rng, 6)
            rows = [[many * 10 ** 20 + rng.randint(0, 1) for many in row] for row in sizes(wide)]
            other = self.with_sizes(wide, rows)
            told = [body_pattern(row) for row in rows] == [body_pattern(row) for row in sizes(wide)]
            self.assert_alike(wide, other, told)
            alike, unlike = alike + told, unlike + (not told)
            self.assert_alike(wide, wide, True)
        self.assertGreater(min(alike, unlike), 30)

    def test_other_terms_phases_ways_and_wards(self):
        wide = ((((4, 2, ("body", 1, "a"), 5), (2, 1, ("kept",), 3)), ((1, 0, ("ward", 1), MOST),)), 2)
        self.assert_alike(wide, self.with_sizes(wide, ((2, 1), (1,))), True)
        self.assert_alike(wide, self.with_sizes(wide, ((2, 2), (1,))), False)
        for path, thing in (((0, 0, 0, 0), 3), ((0, 0, 0, 1), 3), ((0, 0, 1, 1), 0), ((0, 0, 0, 2), ("rest", 1, "a")),
                            ((0, 0, 0, 2), ("body", 0, "a")), ((0, 0, 0, 2), ("body", 1, "b")),
                            ((0, 0, 0, 2), ("body", 1, "kept")), ((0, 1, 0, 2), ("ward", 0)), ((0, 1, 0, 2), ("kept",)),
                            ((1,), 3), ((1,), 4)):
            self.assert_alike(wide, replaced(wide, path, thing), False)
        groups, others = wide[0]
        for bodies in ((groups, others + others), (groups[:1], others), (groups, others, others), (groups[::-1], others)):
            self.assert_alike(wide, (bodies, 2), False)


if __name__ == "__main__":
    unittest.main()
