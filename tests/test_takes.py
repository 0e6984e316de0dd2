import itertools
import random
import unittest
from unittest import mock

from termseats import takes
from termseats.errors import BadBand, BadChoices, BadHouse, BadNumber, BadPaper, BadStand, TooGreat
from termseats.takes import cheapest, check_take, take_paper
from tests import plain
from tests.test_states import thing_is
from tests.things import (
    CHARACTERS, HUGE, Hostile, changed, mixed_cases, replaced, small_house, some_letters, some_stand, things)

ANY = (None, 1)
# One seat of one ward, each year.
ONE = ((((1, 0, ("ward", 0)),),), 1)
# Three seats of three wards, each year.
THREE = ((tuple([(1, 0, ("ward", number)) for number in range(3)]),), 3)
# A seat that keeps itself.
FIRM = ((((1, 0, ("kept",)),),), 1)
# A house from which very many full states come, none of which takes the body 0.
MANY = ((((1, 0, ("kept",)),), tuple([(5, place % 5, ("ward", place % 4)) for place in range(8)])), 4)


def take_cases(seed):
    """Small houses with bands, and choices of the year ahead; both lean to the side b, so that taking costs more."""
    for rng, house, stand, band in mixed_cases(seed):
        last = some_letters(rng, house[1])
        if rng.random() < 0.6:
            stand, last = plain.ends_of(house)[0], "b" * house[1]
        yield rng, (house, stand, last, band, rng.randrange(len(house[0])))


def least_cost(case):
    """The least cost by the full states that come year by year, and those that come ahead of taking the body."""
    house, stand, last, band, body = case
    graph = plain.full_graph_of(house, stand, last, band)
    first = (stand, 0, last, (0,) * house[1])
    costs, least = {first: 0}, None
    again = True
    while again:
        again = False
        for state in list(costs):
            for choices, behind in graph[state].items():
                cost = costs[state] + len(plain.turned_wards(state[2], choices))
                if plain.has_body(behind, body):
                    least = cost if least is None else min(least, cost)
                elif cost < costs.get(behind, cost + 1):
                    costs[behind] = cost
                    again = True
    return least, costs


class ByHand(unittest.TestCase):
    def test_one_ward(self):
        self.assertEqual(cheapest(ONE, ("b",), "b", ANY, 0), 1)
        self.assertEqual(cheapest(ONE, ("b",), "a", ANY, 0), 0)
        self.assertEqual(take_paper(ONE, ("b",), "b", ANY, 0), (
            "cost", 1, ("a",), (((("b",), 0, "b", (0,)), 1),)))
        self.assertEqual(take_paper(ONE, ("b",), "a", ANY, 0), ("cost", 0, ("a",), ()))
        self.assertIsNone(cheapest(ONE, ("b",), "b", (0, 1), 0))
        self.assertEqual(take_paper(ONE, ("b",), "b", (0, 1), 0), ("never", (((("b",), 0, "b", (0,)),))))

    def test_as_many_wards_as_need_be(self):
        for last, cost in (("aaa", 0), ("aab", 0), ("abb", 1), ("bab", 1), ("bbb", 2)):
            for turn in (None, 1, 2, 3, 4):
                for gap in (1, 4):
                    self.assertEqual(cheapest(THREE, ("bbb",), last, (turn, gap), 0), cost)
            self.assertEqual(cheapest(THREE, ("bbb",), last, (0, 1), 0), 0 if cost == 0 else None)

    def test_a_body_that_is_taken_ahead_of_the_year_0(self):
        # A year has to come all the same.
        self.assertEqual(cheapest(FIRM, ("a",), "b", ANY, 0), 0)
        self.assertEqual(len(take_paper(FIRM, ("a",), "b", ANY, 0)[2]), 1)
        self.assertEqual(cheapest(ONE, ("a",), "b", ANY, 0), 1)
        self.assertIsNone(cheapest(ONE, ("a",), "b", (0, 1), 0))
        self.assertIsNone(cheapest(FIRM, ("b",), "a", ANY, 0))

    def test_no_wards(self):
        house = ((((3, 2, ("rest", 0, "a")),),), 0)
        for band in (ANY, (0, 4), (2, 2)):
            self.assertEqual(cheapest(house, ("b",), "", band, 0), 0)
            self.assertEqual(take_paper(house, ("b",), "", band, 0), ("cost", 0, ("", "", ""), ()))
            self.assertEqual(take_paper((FIRM[0], 0), ("b",), "", band, 0), ("never", ((("b",), 0, "", ()),)))

    def test_the_wards_may_turn_in_the_year_0_as_the_band_tells(self):
        two = ((((1, 0, ("ward", 0)), (1, 0, ("ward", 1))),), 2)
        for turn, years in ((None, 1), (2, 1), (1, 2)):
            word, cost, rows, _ = take_paper(two, ("bb",), "bb", (turn, 1), 0)
            self.assertEqual((word, cost, len(rows)), ("cost", 2, years))
        self.assertIsNone(cheapest(two, ("bb",), "ab", (0, 1), 0))
        self.assertEqual(cheapest(two, ("bb",), "ab", (1, 4), 0), 1)

    def test_a_gap(self):
        # The seat of the body 1 must tell "a" while that of the ward 1 tells "b", and then "b" in the year behind.
        house = ((((2, 0, ("ward", 0)), (2, 1, ("ward", 0)), (1, 0, ("ward", 1))),), 2)
        self.assertEqual(cheapest(house, ("bbb",), "bb", ANY, 0), 1)
        self.assertEqual(cheapest(house, ("bbb",), "bb", (1, 4), 0), 1)
        turning = ((((1, 0, ("ward", 0)), (1, 0, ("rest", 1, "b")), (1, 0, ("rest", 1, "b"))), (
            (2, 0, ("ward", 0)), (2, 1, ("ward", 0)))), 1)
        for gap in (1, 2, 3, 4):
            self.assertEqual(cheapest(turning, ("bbb", "bb"), "b", (None, gap), 0), 1)

    def test_a_row_that_costs_more_where_a_ward_cannot_turn(self):
        # Of the wards 0 and 1 one tells "a" in the year 0 and the other one "b"; in the year 1 it is to be the other way.
        seats = ((2, 0, ("ward", 0)), (2, 1, ("ward", 1)))
        told = {}
        for gap in (1, 2, 3):
            told[gap] = cheapest(((seats,), 2), ("bb",), "ab", (1, gap), 0)
        self.assertEqual(told, {1: 1, 2: 1, 3: 1})
        # One ward is to tell "a" in the years 0 and 2, and "b" in the year 1.
        house = ((((3, 0, ("ward", 0)), (3, 2, ("ward", 0)), (3, 1, ("body", 1, "b"))), ((3, 1, ("ward", 0)),)), 1)
        self.assertEqual(cheapest(house, ("bbb", "b"), "b", ANY, 0), 1)


class ByThePlainWay(unittest.TestCase):
    def test_houses_of_each_size_with_each_band(self):
        found = {}
        for rng, case in take_cases(91):
            least, costs = least_cost(case)
            self.assertEqual(cheapest(*case), least)
            paper = take_paper(*case)
            self.assertEqual(check_take(*case, paper), least)
            if len(costs) < 60:
                self.assertEqual(plain.take_told(*case, paper), least)
            if least is None:
                self.assertEqual(paper, ("never", tuple(sorted(costs))))
            else:
                self.assertEqual((paper[:2], len(paper)), (("cost", least), 4))
                self.assertEqual({type(part) for part in paper[2:]}, {tuple})
            self.assertIs(type(paper), tuple)
            found[least] = found.get(least, 0) + 1
        for cost in (None, 0, 1, 2):
            self.assertGreater(found[cost], 4)

    def test_by_all_rows_of_some_years(self):
        # Costs of all rows that are within the band by point 13, the year ahead of the year 0 among them.
        rng = random.Random(92)
        for _ in range(150):
            bodies, wards = rng.randint(1, 2), rng.randint(1, 2)
            house = small_house(rng, bodies, wards, rng.randint(bodies, 4))
            stand, last = some_stand(rng, house), some_letters(rng, wards)
            band = rng.choice([ANY, (0, 1), (1, 1), (1, 2), (None, 2), (None, 4), (2, 3)])
            body = rng.randrange(bodies)
            least = cheapest(house, stand, last, band, body)
            costs = self.costs_of_rows(house, stand, last, band, body, 4 if wards == 2 else 7)
            if costs:
                self.assertLessEqual(least, min(costs))
            paper = take_paper(house, stand, last, band, body)
            if least is not None and len(paper[2]) <= (4 if wards == 2 else 7):
                self.assertEqual(least, min(costs))

    def costs_of_rows(self, house, stand, last, band, body, years):
        costs = []
        for rows in itertools.product(plain.all_rows(house[1]), repeat=years):
            now, paid = stand, 0
            for number, choices in enumerate(rows):
                if not plain.is_within(band, (last,) + rows[:number + 1]):
                    break
                paid += len(plain.turned_wards(((last,) + rows)[number], choices))
                now = plain.stand_by_the_document(house, now, number, choices)
                if now[body].count("a") > now[body].count("b"):
                    costs.append(paid)
        return costs


class Papers(unittest.TestCase):
    def assert_told(self, case, paper, told):
        if isinstance(told, str):
            with self.assertRaises(BadPaper) as caught:
                check_take(*case, paper)
            self.assertEqual(caught.exception.word, told)
        else:
            self.assertEqual(check_take(*case, paper), told)

    def papers(self, seed, word, cost=0):
        for rng, case in take_cases(seed):
            paper = take_paper(*case)
            if paper[0] == word and len(paper[-1]) < 60 and (word == "never" or paper[1] >= cost):
                yield rng, case, paper

    def test_papers_with_one_part_otherwise(self):
        words = {}
        for word in ("cost", "never"):
            for rng, case, paper in self.papers(93, word):
                for _ in range(12):
                    other = changed(rng, paper)
                    told = plain.take_told(*case, other)
                    words[told] = words.get(told, 0) + 1
                    self.assert_told(case, other, told)
        for told in ("form", "cost", "never", None, 0, 1):
            self.assertGreater(words[told], 9)

    def test_prices(self):
        for rng, case, paper in self.papers(94, "cost", 1):
            word, cost, rows, prices = paper
            tell = lambda other, told: self.assert_told(case, (word, cost, rows, other), told)
            house, stand, last, band, body = case
            first = (stand, 0, last, (0,) * house[1])
            at = [state for state, _ in prices].index(first)
            for price in (cost - 1, 0, -1, 10 ** 9, 10 ** 9 + 1, HUGE, None, str(cost), bool(cost)):
                tell(replaced(prices, (at, 1), price), "cost")
            tell(prices[:at] + prices[at + 1:], "cost")
            for at, (state, price) in enumerate(prices[:8]):
                for other in (price + 1, price - 1, 1, price + 10 ** 8, 10 ** 9, 10 ** 9 + 1):
                    changed_prices = replaced(prices, (at, 1), other)
                    told = plain.take_told(*case, (word, cost, rows, changed_prices))
                    tell(changed_prices, told)
                tell(prices[:at + 1] + prices[at:], "cost")
                tell(tuple(sorted(prices + ((state, price + 1),))), "cost")
                tell(replaced(prices, (at, 1), True), "cost")
            if len(prices) > 1:
                tell(prices[::-1], "cost")
            for other in (list(prices), dict(prices), (), None, prices + (None,), (None,) + prices, iter(prices), 0,
                          tuple([list(one) for one in prices]), tuple([one + (0,) for one in prices]),
                          tuple([state for state, _ in prices])):
                tell(other, "cost")

    def greatest_prices(self, case, states):
        """The greatest price of each of some full states that lead to one another: what taking costs from there."""
        house, stand, last, band, body = case
        prices = {state: 10 ** 9 for state in states}
        again = True
        while again:
            again = False
            for state in states:
                for paid, behind, _ in plain.all_full_behind(house, band, state):
                    cost = paid + (0 if plain.has_body(behind, body) else prices[behind])
                    if cost < prices[state]:
                        prices[state] = cost
                        again = True
        return prices

    def test_greatest_prices(self):
        tried = lower = 0
        for rng, case, paper in self.papers(98, "cost", 1):
            word, cost, rows, told = paper
            house, stand, last, band, body = case
            states = {state: True for state in plain.full_graph_of(*case[:4])}
            # Some full states that never come, with those behind them.
            for _ in range(3):
                states[(some_stand(rng, house), rng.randrange(plain.round_of(house)), some_letters(rng, house[1]),
                        tuple([rng.randrange(band[1]) for _ in range(house[1])]))] = True
            whole = list(states)
            for state in whole:
                whole += [one for _, one, _ in plain.all_full_behind(house, band, state) if one not in whole]
                if len(whole) > 90:
                    break
            if len(whole) > 90:
                continue
            tried += 1
            prices = self.greatest_prices(case, whole)
            tell = lambda other, right: self.assert_told(case, (word, cost, rows, tuple(sorted(other.items()))), right)
            positive = {state: price for state, price in prices.items() if price > 0}
            tell(positive, cost)
            tell({state: min(price, cost) for state, price in positive.items()}, cost)
            lower += any(price > cost for price in positive.values())
            for state in rng.sample(sorted(prices), min(5, len(prices))):
                tell({**positive, state: prices[state] + 1}, word)
            for state, price in told:
                self.assertLessEqual(price, prices[state])
        self.assertGreater(min(tried, lower), 3)

    def test_cost_and_rows(self):
        for rng, case, paper in self.papers(95, "cost"):
            word, cost, rows, prices = paper
            wards = case[0][1]
            for other in (cost + 1, cost - 1, -1, HUGE, None, str(cost), (cost,), bool(cost)):
                self.assert_told(case, (word, other, rows, prices), "cost")
            for other in (list(rows), (), None, "".join(rows) or None, iter(rows), 0, {}, rows[:-1] + (None,),
                          rows[:-1] + (rows[-1] + "a",), rows[:-1] + (list(rows[-1]),), rows[:-1] + ("c" * (wards or 1),)):
                self.assert_told(case, (word, cost, other, prices), "cost")
            # Fewer years do not take the body at this cost, or cost less, which cannot be.
            told = plain.take_told(*case, (word, cost, rows[:-1], prices))
            self.assert_told(case, (word, cost, rows[:-1], prices), told)

    def test_a_cost_of_0(self):
        case = (ONE, ("b",), "a", ANY, 0)
        for rows in (("a",), ("a", "a", "a")):
            self.assert_told(case, ("cost", 0, rows, ()), 0)
        self.assert_told(case, ("cost", 0, ("b",), ()), "cost")
        self.assert_told(case, ("cost", 0, ("b", "a"), ()), "cost")
        self.assert_told(case, ("cost", 2, ("b", "a"), ()), "cost")
        self.assert_told(case, ("cost", False, ("a",), ()), "cost")
        # From the first full state the body is taken at the cost 0, so it can have no price.
        self.assert_told(case, ("cost", 0, ("a",), (((("b",), 0, "a", (0,)), 1),)), "cost")
        self.assert_told(case, ("cost", 0, ("a",), (((("b",), 0, "b", (0,)), 1),)), 0)
        self.assert_told(case, ("cost", 0, ("a",), (((("b",), 0, "b", (0,)), 2),)), "cost")
        for price in (0, -1):
            self.assert_told(case, ("cost", 0, ("a",), (((("b",), 0, "b", (0,)), price),)), "cost")

    def test_a_cost_that_is_not_the_least_one(self):
        case = (THREE, ("bbb",), "abb", ANY, 0)
        prices = take_paper(*case)[3]
        self.assert_told(case, ("cost", 1, ("aba",), prices), 1)
        self.assert_told(case, ("cost", 1, ("abb", "abb", "aab"), prices), 1)
        self.assert_told(case, ("cost", 2, ("aaa",), prices), "cost")
        more = tuple([(state, price + 1) for state, price in prices])
        self.assert_told(case, ("cost", 2, ("aaa",), more), "cost")
        self.assert_told(case, ("cost", 3, ("bab", "aab"), prices), "cost")

    def test_a_price_of_taking(self):
        # What the state behind a year has in PRICES counts only where the body is not taken behind it.
        case = (FIRM, ("a",), "b", ANY, 0)
        self.assert_told(case, ("cost", 0, ("b",), ()), 0)
        own = ((("a",), 0, "b", (0,)), 1)
        self.assert_told(case, ("cost", 0, ("b",), (own,)), "cost")
        # No year takes the body from this state: it leads to itself, with what it has, and to the other one at a cost.
        case = (FIRM, ("b",), "b", ANY, 0)
        self.assert_told(case, ("cost", 0, ("b",), ()), "cost")

    def test_a_full_state_that_is_taken_and_leads_on(self):
        # A price of a state in which the body is taken is bound by what comes behind it, as any other one is.
        two = ((((1, 0, ("ward", 0)),),), 2)
        case = (two, ("b",), "bb", ANY, 0)
        word, cost, rows, prices = take_paper(*case)
        self.assertEqual(cost, 1)
        for last, right in (("ab", 0), ("bb", 1), ("ba", 0), ("aa", 0)):
            for price in (1, 2):
                state = (("a",), 0, last, (0, 0))
                other = (word, cost, rows, tuple(sorted(prices + ((state, price),))))
                told = plain.take_told(*case, other)
                self.assertEqual(told == cost, price <= right)
                self.assert_told(case, other, told)

    def test_rows_that_leave_the_band(self):
        # The three seats come up one behind the other, each one of its own ward.
        slow = ((tuple([(3, number, ("ward", number)) for number in range(3)]),), 3)
        for band, rows, told in (
                (ANY, ("abb", "aab"), 2), ((1, 1), ("abb", "aab"), 2), ((1, 1), ("bbb", "aab"), "cost"),
                ((None, 2), ("abb", "bab", "bab", "aab", "aab"), "cost"), ((None, 4), ("aab", "aab"), 2),
                ((1, 1), ("aab", "aab"), "cost"), ((0, 1), ("aab", "aab"), "cost")):
            case = (slow, ("bbb",), "bbb", band, 0)
            paper = take_paper(*case)
            if told != "cost":
                self.assertEqual(paper[1], told)
            prices = paper[3] if paper[0] == "cost" else ()
            self.assert_told(case, ("cost", 2, rows, prices), told)

    def test_a_ward_that_turned_in_the_year_0(self):
        house = ((((2, 1, ("ward", 0)),),), 1)
        case = lambda band: (house, ("b",), "a", band, 0)
        self.assert_told(case((None, 1)), ("cost", 2, ("b", "a"), ()), "cost")
        kept = (((((2, 1, ("ward", 0)), (2, 0, ("body", 0, "kept")))),), 1)
        for band, told in (((None, 1), 0), ((None, 2), 0), ((1, 4), 0)):
            self.assertEqual(cheapest(*case(band)), told)
        for paper in (("cost", 0, ("a", "a"), ()), ("cost", 0, ("a", "a", "a"), ())):
            self.assert_told(case((None, 2)), paper, 0)
        self.assertIs(cheapest(kept, ("bb",), "b", (0, 1), 0), None)

    def test_never(self):
        found = 0
        for rng, case, paper in self.papers(96, "never"):
            found += 1
            word, table = paper
            house, stand, last, band, body = case
            tell = lambda other, told: self.assert_told(case, (word, other), told)
            for wrong in (list(table), table + table[-1:], table[:1] + table, (None,) + table, table + (None,), (), None,
                          "", 0, table[:-1], table[1:], set(table), dict.fromkeys(table), (list(table[0]),) + table[1:]):
                tell(wrong, "never")
            if len(table) > 1:
                tell(table[::-1], "never")
                at = rng.randrange(len(table))
                tell(table[:at] + table[at + 1:], "never")
            for _ in range(4):
                other = (some_stand(rng, house), rng.randrange(plain.round_of(house)), some_letters(rng, house[1]),
                         tuple([rng.randrange(band[1]) for _ in range(house[1])]))
                whole = list(dict.fromkeys(table + (other,)))
                for state in whole:
                    whole += [one for _, one, _ in plain.all_full_behind(house, band, state) if one not in whole]
                whole = tuple(sorted(whole))
                tell(whole, plain.take_told(*case, (word, whole)))
                alone = tuple(sorted(set(table + (other,))))
                tell(alone, plain.take_told(*case, (word, alone)))
        self.assertGreater(found, 20)

    def test_a_table_in_which_the_body_is_taken(self):
        case = (ONE, ("b",), "b", ANY, 0)
        table = tuple([((side,), 0, last, (0,)) for side in "ab" for last in "ab"])
        self.assert_told(case, ("never", table), "never")
        # The body is had ahead of the year 0, but not taken.
        case = (ONE, ("a",), "b", (0, 1), 0)
        table = ((("a",), 0, "b", (0,)), (("b",), 0, "b", (0,)))
        self.assertEqual(take_paper(*case), ("never", table))
        self.assert_told(case, ("never", table), None)
        self.assert_told(case, ("never", table[1:]), "never")

    def test_forms_of_full_states(self):
        case = (FIRM, ("b",), "b", (None, 2), 0)
        table = take_paper(*case)[1]
        self.assertEqual(table, tuple([(("b",), 0, last, (age,)) for last in "ab" for age in (0, 1)]))
        self.assert_told(case, ("never", table), None)
        for state in ((("b",), 0, "", ()), (("b",), 1, "b", (0,)), (("b",), -1, "b", (0,)), (("b",), 0, "b", (2,)),
                      (("b",), 0, "b", (-1,)), (("b",), 0, "b", ()), (("b",), 0, "", (0,)), (("b",), 0, "bb", (0, 0)),
                      (("bb",), 0, "b", (0,)), (("b", "b"), 0, "b", (0,)), (("b",), 0, "b"), (("b",), 0, "b", (0,), 0)):
            self.assert_told(case, ("never", tuple(sorted(table + (state,)))), "never")
        # Within (None, 1) LAST and AGES are told, too.
        case = (FIRM, ("b",), "b", ANY, 0)
        table = ((("b",), 0, "a", (0,)), (("b",), 0, "b", (0,)))
        self.assertEqual(take_paper(*case), ("never", table))
        for wrong in (((("b",), 0, "", ()),), ((("b",), 0, "", ()),) + table, table[:1] + ((("b",), 0, "b", (1,)),)):
            self.assert_told(case, ("never", wrong), "never")

    def test_true_in_place_of_1(self):
        house = ((((2, 1, ("kept",)),),), 1)
        case = (house, ("b",), "b", (None, 2), 0)
        word, table = take_paper(*case)
        for at, (_, number, _, ages) in enumerate(table):
            self.assert_told(case, (word, replaced(table, (at, 1), bool(number))), "never")
            self.assert_told(case, (word, replaced(table, (at, 3), (bool(ages[0]),))), "never")
        case = (ONE, ("b",), "b", ANY, 0)
        word, cost, rows, prices = take_paper(*case)
        self.assertEqual(cost, 1)
        self.assert_told(case, (word, True, rows, prices), "cost")
        for path in ((0, 1), (0, 0, 1), (0, 0, 3, 0)):
            value = prices[0][1] if path == (0, 1) else 0
            self.assert_told(case, (word, cost, rows, replaced(prices, path, bool(value))), "cost")

    def test_things_in_the_place_of_the_paper_and_its_parts(self):
        cases = [((ONE, ("b",), "b", (None, 2), 0), [(1,), (2,), (3,), (2, 0), (3, 0), (3, 0, 0), (3, 0, 1), (3, 0, 0, 0),
                                                     (3, 0, 0, 0, 0), (3, 0, 0, 1), (3, 0, 0, 2), (3, 0, 0, 3),
                                                     (3, 0, 0, 3, 0)]),
                 ((FIRM, ("b",), "b", (None, 2), 0), [(1,), (1, 0), (1, 1), (1, 1, 0), (1, 1, 1), (1, 1, 2), (1, 1, 3),
                                                      (1, 1, 3, 0), (1, 0, 0, 0)])]
        for case, paths in cases:
            paper = take_paper(*case)
            taken = 0
            for thing in things():
                self.assert_told(case, thing, "form")
                self.assert_told(case, replaced(paper, (0,), thing), "form")
                for path in paths:
                    other = replaced(paper, path, thing)
                    told = plain.take_told(*case, other)
                    self.assert_told(case, other, told)
                    taken += told != paper[0]
            self.assertLess(taken, 20)

    def test_forms(self):
        case = (FIRM, ("b",), "b", ANY, 0)
        for form in (("never",), ("never", (), ()), ("never", 0, (), ()), ("cost", 0, ()), ("cost", ()), (), ["never", ()],
                     ("Never", ()), ("cost", 0, (), (), ()), (b"never", ()), ("cost", 1), ["cost", 0, (), ()]):
            self.assert_told(case, form, "form")
        self.assert_told(case, ("never", ()), "never")
        self.assert_told(case, ("cost", 0, (), ()), "cost")

    def test_each_character(self):
        case = (ONE, ("b",), "a", ANY, 0)
        for letter in CHARACTERS:
            self.assert_told(case, ("cost", 0, (letter,), ()), 0 if letter == "a" else "cost")


class FirstArgument(unittest.TestCase):
    CALLS = ((cheapest, ()), (take_paper, ()), (check_take, (None,)))
    RIGHT = (ONE, ("a",), "b", ANY, 0)

    def test_things_in_the_place_of_each_argument(self):
        errors = (BadHouse, BadStand, BadChoices, BadBand, BadNumber)
        for (function, more), thing in itertools.product(self.CALLS, things()):
            for place, error in enumerate(errors):
                if thing_is(thing, self.RIGHT[place]) or (place == 3 and thing_is(thing, (1, 1))):
                    continue
                if place == 2 and thing_is(thing, "a"):
                    continue
                for behind in ([None] * (4 - place), list(self.RIGHT[place + 1:])):
                    given = list(self.RIGHT[:place]) + [thing] + behind
                    with self.assertRaises(error) as caught:
                        function(*given, *[Hostile()] * len(more))
                    if error in (BadStand, BadNumber):
                        self.assertIs(caught.exception.value, thing)
                    if error is BadChoices:
                        self.assertEqual(caught.exception.place, 0)
                        self.assertIs(type(caught.exception.place), int)

    def test_last(self):
        for function, more in self.CALLS:
            for house, stand, lasts in ((THREE, ("bbb",), ("", "aa", "aaaa", "aac", ("a",) * 3, None)),
                                        ((FIRM[0], 0), ("b",), ("a", None, (), [], 0))):
                for last in lasts:
                    with self.assertRaises(BadChoices) as caught:
                        function(house, stand, last, (None, 9), 9, *more)
                    self.assertEqual(caught.exception.place, 0)

    def test_bands_and_bodies(self):
        for function, more in self.CALLS:
            for band, part in (((None, 0), "gap"), ((5, 0), "turn"), ((None,), "form"), ((True, 1), "turn")):
                with self.assertRaises(BadBand) as caught:
                    function(ONE, ("a",), "a", band, 9, *more)
                self.assertEqual(caught.exception.part, part)
            for body in (-1, 1, 3, HUGE, True, False, None, "0"):
                with self.assertRaises(BadNumber) as caught:
                    function(ONE, ("a",), "a", ANY, body, *more)
                self.assertIs(caught.exception.value, body)

    def test_too_many_full_states(self):
        case = (MANY, ("b", "b" * 8), "bbbb", (None, 4))
        for function in (cheapest, take_paper):
            with self.assertRaises(TooGreat) as caught:
                function(*case, 0)
            self.assertEqual(caught.exception.most, 20000)
            with self.assertRaises(BadNumber):
                function(*case, 2)
        for paper, word in ((None, "form"), (("never", ()), "never"), (("cost", 0, ("bbbb",), ()), "cost")):
            with self.assertRaises(BadPaper) as caught:
                check_take(*case, 0, paper)
            self.assertEqual(caught.exception.word, word)

    def test_not_too_many_below_the_least_cost(self):
        # Far more than 20,000 full states come, but few of them cheaply and ahead of taking the body.
        case = (MANY, ("b", "b" * 8), "bbbb", (None, 4), 1)
        least = cheapest(*case)
        self.assertEqual(least, 3)
        self.assertEqual(check_take(*case, take_paper(*case)), 3)
        self.assertEqual(cheapest(MANY, ("a", "b" * 8), "bbbb", (None, 4), 0), 0)

    def test_just_as_many_as_may_come(self):
        tried = 0
        for rng, case in itertools.islice(take_cases(97), 0, None, 3):
            least, costs = least_cost(case)
            below = len([cost for cost in costs.values() if least is None or cost < least])
            many = len(plain.full_graph_of(*case[:4]))
            with mock.patch.object(takes, "MOST_STATES", many):
                self.assertEqual(cheapest(*case), least)
            if below > 1:
                tried += 1
                for function in (cheapest, take_paper):
                    with mock.patch.object(takes, "MOST_STATES", below - 1), self.assertRaises(TooGreat):
                        function(*case)
            if least is None:
                with mock.patch.object(takes, "MOST_STATES", below):
                    self.assertIsNone(cheapest(*case))
        self.assertGreater(tried, 20)


if __name__ == "__main__":
    unittest.main()
