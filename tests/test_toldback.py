import itertools
import random
import unittest
from unittest import mock

from termseats import toldback
from termseats.errors import BadBand, BadHouse, BadSeen, BadStand, TooGreat
from termseats.toldback import begins, firm, first_false, least_row, many_rows
from tests import plain
from tests.refusing import BANDS_AMONG_THINGS, Refusing, is_just
from tests.test_states import TOO_MANY, TOO_MANY_CASE
from tests.things import BANDS, CHARACTERS, mixed_cases, small_house, some_letters, some_stand, things

ANY = (None, 1)
KEPT = (1, 0, ("kept",))
ONE = ((((1, 0, ("ward", 0)),),), 1)
# Behind the year 5 there are 24,576 states with the band (None, 2), behind all before far fewer.
SLOW = ((tuple([(6, place % 6, ("ward", place % 4)) for place in range(9)]),), 4)
FOUR = (firm, first_false, many_rows, least_row)


def signs_of(stand):
    return "".join(["a" if row.count("a") > row.count("b") else "b" if row.count("b") > row.count("a") else "="
                    for row in stand])


def agrees(house, stand, seen, rows):
    """Whether all that was seen of as many years as there are rows is so."""
    for number, choices in enumerate(rows):
        stand = plain.stand_by_the_document(house, stand, number, choices)
        if any(sign not in ("?", side) for sign, side in zip(seen[number], signs_of(stand))):
            return False
    return True


def rows_that_agree(house, stand, band, seen, years):
    """All rows of choices of the first years that agree, by trying each."""
    return [rows for rows in itertools.product(plain.all_rows(house[1]), repeat=years)
            if plain.is_within(band, rows) and agrees(house, stand, seen, rows)]


def some_seen(rng, house, stand, band, years):
    """What was seen: mostly what some row of choices within the band lets be seen, with some of it unseen."""
    graph_rows = ()
    seen = []
    for number in range(years):
        fits = [choices for choices in plain.all_rows(house[1]) if plain.is_within(band, graph_rows + (choices,))]
        graph_rows += (rng.choice(fits),)
        stand = plain.stand_by_the_document(house, stand, number, graph_rows[-1])
        seen.append("".join([rng.choice(sign * 3 + "?") for sign in signs_of(stand)]))
    if years and rng.random() < 0.3:
        at = rng.randrange(years)
        seen[at] = "".join([rng.choice("ab=?") for _ in house[0]])
    return rng.choice((list, tuple))(seen)


def small_cases(seed, most_wards=3):
    """Small houses with a stand, a band, and what was seen in a few years."""
    for rng, house, stand, band in mixed_cases(seed, most_wards):
        years = rng.randint(0, (6, 6, 4, 3, 2)[house[1]])
        yield rng, house, stand, band, some_seen(rng, house, stand, band, years)


class Small(unittest.TestCase):
    def test_against_trying_all_rows(self):
        none = some = doubtful = 0
        for seed in (121, 122, 123):
            for _, house, stand, band, seen in small_cases(seed, 4):
                rows = rows_that_agree(house, stand, band, seen, len(seen))
                case = (house, stand, band, seen)
                self.assertEqual(many_rows(*case), len(rows))
                self.assertEqual(least_row(*case), min(rows, default=None))
                none, some = none + (not rows), some + bool(rows)
                if rows:
                    told = tuple(["".join([
                        letters.pop() if len(letters) == 1 else "?"
                        for letters in [{row[number][ward] for row in rows} for ward in range(house[1])]])
                        for number in range(len(seen))])
                    self.assertEqual(firm(*case), told)
                    doubtful += "?" in "".join(told) and "".join(told).strip("?") != ""
                    self.assertIsNone(first_false(*case))
                else:
                    self.assertIsNone(firm(*case))
                    counts = [len(rows_that_agree(house, stand, band, seen, years + 1)) for years in range(len(seen))]
                    self.assertEqual(first_false(*case), counts.index(0))
        self.assertGreater(min(none, some, doubtful), 30)

    def test_begins_against_trying_all_stands(self):
        none = some = 0
        for _, house, _, band, seen in itertools.chain(small_cases(124, 2), small_cases(125, 1)):
            if sum([len(body) for body in house[0]]) > 4:
                continue
            told = begins(house, band, seen)
            self.assertIs(type(told), tuple)
            self.assertEqual(told, tuple([
                stand for stand in plain.all_stands(house)
                if rows_that_agree(house, stand, band, seen, len(seen))]))
            none, some = none + (told == ()), some + (0 < len(told) < len(plain.all_stands(house)))
        self.assertGreater(min(none, some), 5)

    def test_what_is_told_is_of_the_kinds_that_are_told(self):
        for _, house, stand, band, seen in small_cases(126, 2):
            for function in (firm, least_row):
                told = function(house, stand, band, seen)
                self.assertTrue(told is None or type(told) is tuple and {type(one) for one in told} <= {str})
            self.assertIs(type(many_rows(house, stand, band, seen)), int)


class ByHand(unittest.TestCase):
    def test_no_years_at_all(self):
        for house, stand in ((ONE, ("a",)), ((((KEPT,), (KEPT, KEPT)), 4), ("a", "bb"))):
            for band, seen in itertools.product(((None, 1), (0, 4), (1, 2)), ([], ())):
                self.assertEqual(firm(house, stand, band, seen), ())
                self.assertIsNone(first_false(house, stand, band, seen))
                self.assertEqual(many_rows(house, stand, band, seen), 1)
                self.assertEqual(least_row(house, stand, band, seen), ())
                self.assertEqual(begins(house, band, seen), tuple(plain.all_stands(house)))

    def test_nothing_was_seen(self):
        for years in range(6):
            seen = ["?"] * years
            self.assertEqual(firm(ONE, ("a",), ANY, seen), ("?",) * years)
            self.assertEqual(many_rows(ONE, ("a",), ANY, seen), 2 ** years)
            self.assertEqual(many_rows(ONE, ("a",), (0, 1), seen), 2 if years else 1)
            self.assertEqual(least_row(ONE, ("a",), ANY, seen), ("a",) * years)

    def test_one_ward(self):
        self.assertEqual(firm(ONE, ("a",), ANY, ("a", "?", "b", "b")), ("a", "?", "b", "b"))
        self.assertEqual(many_rows(ONE, ("a",), ANY, ("a", "?", "b", "b")), 2)
        self.assertEqual(least_row(ONE, ("a",), ANY, ("?", "b", "?")), ("a", "b", "a"))
        # No ward turns: what was told in one year was told in each.
        self.assertEqual(firm(ONE, ("a",), (0, 1), ("?", "?", "b", "?")), ("b",) * 4)
        self.assertEqual(first_false(ONE, ("a",), (0, 1), ("?", "a", "b", "a")), 2)
        # It has turned in the year 1, so it tells the same in the year 2.
        self.assertEqual(firm(ONE, ("a",), (None, 2), ("a", "b", "?", "?")), ("a", "b", "b", "?"))
        self.assertEqual(first_false(ONE, ("a",), (None, 2), ("a", "b", "a", "?")), 2)
        self.assertEqual(first_false(ONE, ("a",), ANY, ("a", "=", "a", "=")), 1)
        self.assertEqual(first_false(ONE, ("a",), ANY, ("=",)), 0)

    def test_a_row_that_agrees_only_up_to_a_later_year(self):
        # The ward 0 was seen; the band leaves the other one no turn beside it.
        house = ((((1, 0, ("ward", 0)),), ((1, 0, ("ward", 1)),)), 2)
        seen = ("a?", "b?", "?a")
        self.assertEqual(firm(house, ("a", "a"), (1, 1), seen), ("a?", "b?", "?a"))
        self.assertEqual(firm(house, ("a", "a"), (0, 1), ("a?", "?b")), ("ab", "ab"))
        self.assertEqual(firm(house, ("a", "a"), (1, 2), ("a?", "b?", "aa")), None)
        self.assertEqual(first_false(house, ("a", "a"), (1, 2), ("a?", "b?", "aa")), 2)
        self.assertEqual(firm(house, ("a", "a"), (1, 1), ("ab", "b?", "?a")), ("ab", "bb", "ba"))

    def test_houses_with_no_wards(self):
        swap = ((((1, 0, ("body", 1, "a")),), ((1, 0, ("body", 0, "a")),)), 0)
        for band in ((None, 1), (0, 4)):
            seen = ("ba", "?b", "b?")
            self.assertEqual(firm(swap, ("a", "b"), band, seen), ("", "", ""))
            self.assertEqual(many_rows(swap, ("a", "b"), band, seen), 1)
            self.assertEqual(least_row(swap, ("a", "b"), band, seen), ("", "", ""))
            self.assertEqual(begins(swap, band, seen), (("a", "b"),))
            self.assertEqual(begins(swap, band, ["?a"]), (("a", "a"), ("a", "b")))
            self.assertEqual(first_false(swap, ("a", "b"), band, ("ba", "aa")), 1)
            self.assertIsNone(firm(swap, ("a", "b"), band, ("ba", "aa")))
            self.assertIsNone(least_row(swap, ("a", "b"), band, ("ba", "aa")))
            self.assertEqual(many_rows(swap, ("a", "b"), band, ("ba", "aa")), 0)

    def test_different_rows_to_the_same_state_count_each(self):
        house = ((((1, 0, ("ward", 0)),),), 4)
        self.assertEqual(many_rows(house, ("a",), ANY, ["a"] * 40), 8 ** 40)
        self.assertEqual(firm(house, ("a",), ANY, ["a", "b"]), ("a???", "b???"))

    def test_the_example(self):
        house = ((((1, 0, ("ward", 0)), (2, 0, ("ward", 1)), (2, 1, ("ward", 1))),), 2)
        self.assertEqual(firm(house, ("aaa",), (1, 1), ("a", "b")), ("??", "?b"))
        self.assertEqual(many_rows(house, ("aaa",), (None, 1), ("a", "b")), 5)


class FortyYears(unittest.TestCase):
    def plain_levels(self, house, stand, band, seen):
        """For each year the states behind it by rows that agree so far, each with how many rows lead there."""
        graph = plain.graph_of(house, stand, band)
        levels = [{(stand, 0, "", ()): 1}]
        for signs in seen:
            level = {}
            for state, many in levels[-1].items():
                for behind in graph[state].values():
                    if all(sign in ("?", side) for sign, side in zip(signs, signs_of(behind[0]))):
                        level[behind] = level.get(behind, 0) + many
            levels.append(level)
        return graph, levels

    def test_forty_years(self):
        found = none = 0
        for index, (rng, house, stand, band) in enumerate(mixed_cases(127, 2)):
            if index % 3:
                continue
            seen = some_seen(rng, house, stand, band, 40)
            graph, levels = self.plain_levels(house, stand, band, seen)
            case = (house, stand, band, seen)
            self.assertEqual(many_rows(*case), sum(levels[-1].values()))
            if not levels[-1]:
                none += 1
                self.assertEqual(first_false(*case), [len(level) for level in levels].index(0) - 1)
                self.assertEqual((firm(*case), least_row(*case)), (None, None))
                continue
            found += 1
            self.assertIsNone(first_false(*case))
            good, told, rows = set(levels[-1]), [], {state: () for state in levels[-1]}
            for level in levels[-2::-1]:
                ways = [(state, choices, behind) for state in level for choices, behind in graph[state].items()
                        if behind in good]
                told.append(["".join(sorted({choices[ward] for _, choices, _ in ways})) for ward in range(house[1])])
                ahead = {}
                for state, choices, behind in ways:
                    row = (choices,) + rows[behind]
                    ahead[state] = min(ahead.get(state, row), row)
                good, rows = set(ahead), ahead
            self.assertEqual(least_row(*case), rows[(stand, 0, "", ())])
            self.assertEqual(firm(*case), tuple([
                "".join([letters if len(letters) == 1 else "?" for letters in year]) for year in told[::-1]]))
            self.assertIn(stand, begins(house, band, seen))
        self.assertGreater(min(found, none), 8)

    def test_begins_of_nine_seats(self):
        rng = random.Random(128)
        for bodies in (1, 2, 3):
            house = small_house(rng, bodies, 2, 9)
            seen = some_seen(rng, house, some_stand(rng, house), (1, 1), 40)
            told = begins(house, (1, 1), seen)
            for stand in plain.all_stands(house)[::7]:
                self.assertEqual(stand in told, first_false(house, stand, (1, 1), seen) is None)
            self.assertEqual(sorted(set(told)), list(told))


class Seen(Refusing):
    def calls(self, house, stand, band):
        return [lambda seen, function=function: function(house, stand, band, seen) for function in FOUR] + [
            lambda seen: begins(house, band, seen)]

    def test_how_many_things(self):
        for call in self.calls(ONE, ("a",), ANY):
            for many in (39, 40):
                call(["?"] * many)
                call(("?",) * many)
            for many in (41, 42, 400):
                for wrong in (["?"] * many, ("?",) * many, [None] * many):
                    self.assert_refused(BadSeen, "place", None, call, wrong)

    def test_things_of_every_kind(self):
        for call in self.calls(ONE, ("a",), ANY):
            for thing in things():
                if isinstance(thing, (list, tuple)):
                    wrong = [place for place, one in enumerate(thing)
                             if type(one) is not str or one not in ("a", "b", "=", "?")]
                    if wrong:
                        self.assert_refused(BadSeen, "place", wrong[0], call, thing)
                    else:
                        call(thing)
                else:
                    self.assert_refused(BadSeen, "place", None, call, thing)
                for place in (0, 2, 39):
                    if not (type(thing) is str and thing in ("a", "b", "=", "?")):
                        seen = ["="] * place + [thing] + [None] * (39 - place)
                        self.assert_refused(BadSeen, "place", place, call, seen)
                        self.assert_refused(BadSeen, "place", place, call, tuple(seen))

    def test_each_character_and_each_length(self):
        for bodies in (1, 2, 3):
            house = (((KEPT,),) * bodies, 1)
            for call in self.calls(house, ("a",) * bodies, ANY):
                for many in range(6):
                    if many != bodies:
                        self.assert_refused(BadSeen, "place", 1, call, ["?" * bodies, "?" * many])
                    else:
                        call(["?" * bodies, "?" * many])
                for at, sign in itertools.product(range(bodies), CHARACTERS):
                    signs = "?" * at + sign + "=" * (bodies - at - 1)
                    if sign in "ab=?":
                        call((signs,))
                    else:
                        self.assert_refused(BadSeen, "place", 0, call, (signs,))
                self.assert_refused(BadSeen, "place", 0, call, (("?",) * bodies,))

    def test_the_order(self):
        for function in FOUR:
            errors = (BadHouse, BadStand, BadBand, BadSeen)
            self.assert_first(function, (ONE, ("a",), ANY, ["?"]), errors)
            allowed = BANDS_AMONG_THINGS + [(), [], ["a"], ("a",), ["a", "b"], ("a", "b")]
            self.assert_things(function, (ONE, ("a",), ANY, ["?"]), errors, allowed)
            self.assert_refused(BadStand, "value", ("aa",), function, ONE, ("aa",), None, None)
            for band, part in (((None, 0), "gap"), ((5, 0), "turn"), ((None,), "form")):
                self.assert_refused(BadBand, "part", part, function, ONE, ("a",), band, None)
        self.assert_first(begins, (ONE, ANY, ["?"]), (BadHouse, BadBand, BadSeen))
        self.assert_things(begins, (ONE, ANY, ["?"]), (BadHouse, BadBand, BadSeen), allowed)


class TooMany(Refusing):
    def most_behind_a_year(self, house, stand, band, seen):
        _, levels = FortyYears.plain_levels(None, house, stand, band, seen)
        return max([len(level) for level in levels[1:]], default=0)

    def test_just_as_many_as_may_come(self):
        raised = 0
        for _, house, stand, band, seen in itertools.islice(small_cases(129), 0, None, 3):
            case = (house, stand, band, seen)
            most = self.most_behind_a_year(*case)
            for function in FOUR:
                told = function(*case)
                with mock.patch.object(toldback, "MOST_STATES", most):
                    self.assertEqual(function(*case), told)
                if most:
                    raised += 1
                    with mock.patch.object(toldback, "MOST_STATES", most - 1):
                        self.assert_refused(TooGreat, "most", most - 1, function, *case)
        self.assertGreater(raised, 60)

    def test_begins_as_each_stand_by_itself(self):
        found = 0
        for _, house, _, band, seen in itertools.islice(small_cases(130, 2), 0, None, 2):
            if sum([len(body) for body in house[0]]) > 4 or not seen:
                continue
            told = begins(house, band, seen)
            each = [self.most_behind_a_year(house, stand, band, seen) for stand in plain.all_stands(house)]
            # All stands at once come to more states than any of them by itself.
            for at_once in (0, 1, 2, 5, 20, 50000):
                with mock.patch.object(toldback, "MOST_AT_ONCE", at_once):
                    with mock.patch.object(toldback, "MOST_STATES", max(each)):
                        self.assertEqual(begins(house, band, seen), told)
                    if max(each):
                        found += 1
                        with mock.patch.object(toldback, "MOST_STATES", max(each) - 1):
                            self.assert_refused(TooGreat, "most", max(each) - 1, begins, house, band, seen)
        self.assertGreater(found, 60)

    def test_more_than_20000_states(self):
        band = (None, 2)
        for function in FOUR:
            self.assert_refused(TooGreat, "most", 20000, function, SLOW, ("a" * 9,), band, ["?"] * 6)
            self.assert_refused(TooGreat, "most", 20000, function, SLOW, ("b" * 9,), band, ("?",) * 40)
            # It is due for what comes, even if no row agrees later on, and behind the other exceptions.
            self.assert_refused(TooGreat, "most", 20000, function, SLOW, ("a" * 9,), band, ["?"] * 6 + ["="])
            self.assert_refused(BadSeen, "place", 39, function, SLOW, ("a" * 9,), band, ["?"] * 39 + ["??"])
        self.assert_refused(TooGreat, "most", 20000, begins, SLOW, band, ["?"] * 6)

    def test_many_states_come_but_few_agree(self):
        band = (None, 2)
        self.assertEqual(first_false(SLOW, ("a" * 9,), band, ["?"] * 5 + ["="]), 5)
        self.assertIsNone(firm(SLOW, ("a" * 9,), band, ["?"] * 5 + ["="]))
        self.assertEqual(many_rows(SLOW, ("a" * 9,), band, ["=", "?", "?", "?", "?", "?", "?"]), 0)
        half = ["?"] * 5 + ["a"]
        self.assertIsNone(first_false(SLOW, ("a" * 9,), band, half))
        self.assertEqual(least_row(SLOW, ("a" * 9,), band, half), ("aaaa",) * 6)
        self.assertEqual(firm(SLOW, ("a" * 9,), band, half), ("????",) * 6)
        self.assertGreater(many_rows(SLOW, ("a" * 9,), band, half), 20000)
        self.assertEqual(begins(SLOW, band, ["?"] * 5 + ["="]), ())

    def test_stands_of_which_none_by_itself_leads_to_too_many_states(self):
        # Of each stand 16,800 states come behind the year 5; the seat that is kept makes others of them.
        house = ((SLOW[0][0][:8] + (KEPT,),), 4)
        for stand in (("a" * 9,), ("b" * 9,)):
            self.assertIsNone(first_false(house, stand, (None, 3), ["?"] * 6))
        self.assertEqual(begins(house, (None, 3), ["?"] * 6), tuple(plain.all_stands(house)))

    def test_many_states_of_all_years_but_not_behind_one(self):
        # 20,001 states come in all, by five years of a round.
        _, stand, band = TOO_MANY_CASE
        self.assertIsNone(first_false(TOO_MANY, stand, band, ["???"] * 12))
        self.assertGreater(many_rows(TOO_MANY, stand, band, ["???"] * 12), 20000)


if __name__ == "__main__":
    unittest.main()
