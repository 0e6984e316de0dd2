import itertools
import random
import unittest

from termseats.counts import bounds, check_seats, rows_to, seats_paper
from termseats.errors import BadBand, BadHouse, BadNumber, BadPaper, BadStand, TooGreat
from termseats.states import Steps
from tests import plain
from tests.test_states import ONE, TOO_MANY_CASE, thing_is
from tests.things import CHARACTERS, HUGE, Hostile, changed, mixed_cases, replaced, things

# Two seats by turns, and a seat that follows the body.
TURNS = ((((2, 0, ("ward", 0)), (2, 1, ("ward", 0)), (1, 0, ("body", 0, "kept"))),), 1)


def counts_of(graph, body):
    """The numbers of seats that the side a has behind some year, with the least number of years to each."""
    many, level, seen, years = {}, [next(iter(graph))], set(), 0
    while level:
        years += 1
        behind = [state for one in level for state in graph[one].values()]
        for state in behind:
            many.setdefault(state[0][body].count("a"), years)
        seen.update(level)
        level = [state for state in dict.fromkeys(behind) if state not in seen]
    return many


class ByHand(unittest.TestCase):
    def test_bounds(self):
        self.assertEqual(bounds(TURNS, ("aaa",), (None, 1), 0), (0, 3))
        self.assertEqual(bounds(ONE, ("a",), (None, 1), 0), (0, 1))
        kept = ((((1, 0, ("kept",)),) * 3,), 0)
        for letters in ("aaa", "aab", "bab", "bbb"):
            self.assertEqual(bounds(kept, (letters,), (None, 1), 0), (letters.count("a"),) * 2)

    def test_the_stand_ahead_of_all_years_does_not_count(self):
        tie = ((((1, 0, ("rest", 0, "b")), (1, 0, ("rest", 0, "b"))),), 0)
        self.assertEqual(bounds(tie, ("aa",), (None, 1), 0), (0, 0))
        self.assertEqual(seats_paper(tie, ("aa",), (None, 1), 0),
                         (0, ((("aa",), 0, "", ()), (("bb",), 0, "", ())), ("",)))
        self.assertIsNone(rows_to(tie, ("aa",), (None, 1), 0, 1))
        self.assertEqual(rows_to(tie, ("aa",), (None, 1), 0, 0), ("",))

    def test_the_stand_ahead_counts_where_it_comes_again(self):
        swap = ((((1, 0, ("body", 1, "a")),), ((1, 0, ("body", 0, "a")),)), 0)
        self.assertEqual(bounds(swap, ("a", "b"), (None, 1), 0), (0, 1))
        self.assertEqual(rows_to(swap, ("a", "b"), (None, 1), 0, 1), ("", ""))
        self.assertEqual(rows_to(swap, ("a", "b"), (None, 1), 1, 1), ("",))

    def test_rows(self):
        self.assertEqual(rows_to(TURNS, ("bbb",), (None, 1), 0, 1), ("a",))
        self.assertEqual(rows_to(TURNS, ("bbb",), (None, 1), 0, 2), ("a", "a"))
        self.assertEqual(rows_to(TURNS, ("bbb",), (None, 1), 0, 3), ("a", "a", "a"))
        self.assertIsNone(rows_to(TURNS, ("bbb",), (None, 1), 0, 4))
        self.assertEqual(rows_to(TURNS, ("aaa",), (None, 1), 0, 3), ("a",))
        self.assertEqual(len(rows_to(TURNS, ("aaa",), (None, 1), 0, 0)), 1)

    def test_papers(self):
        paper = (1, ((("a",), 0, "", ()), (("b",), 0, "", ())), ("a",))
        self.assertEqual(seats_paper(ONE, ("b",), (None, 1), 0), paper)
        self.assertEqual(seats_paper(ONE, ("b",), (None, 1), 0, least=False), paper)
        self.assertEqual(seats_paper(ONE, ("b",), (None, 1), 0, least=True), (0, paper[1], ("b",)))
        self.assertEqual(check_seats(ONE, ("b",), (None, 1), 0, paper), 1)
        self.assertEqual(check_seats(ONE, ("b",), (None, 1), 0, (0, paper[1], ("a", "b")), least=True), 0)


class ByThePlainWay(unittest.TestCase):
    def test_houses_of_each_size_with_each_band(self):
        for rng, house, stand, band in mixed_cases(41):
            graph = plain.graph_of(house, stand, band)
            for body in range(len(house[0])):
                years = counts_of(graph, body)
                self.assertEqual(bounds(house, stand, band, body), (min(years), max(years)))
                many = rng.randint(0, 5)
                self.assert_rows(house, stand, band, body, many, years)
                least = rng.choice((False, True))
                self.assert_paper(house, stand, band, body, least, (graph, years))

    def assert_rows(self, house, stand, band, body, many, years):
        told = rows_to(house, stand, band, body, many)
        if many > max(years):
            self.assertIsNone(told)
            return
        self.assertIs(type(told), tuple)
        self.assertTrue(plain.is_within(band, told))
        self.assertEqual(len(told), min([years[one] for one in years if one >= many]))
        now = stand
        for number, choices in enumerate(told):
            now = plain.stand_by_the_document(house, now, number, choices)
        self.assertGreaterEqual(now[body].count("a"), many)

    def assert_paper(self, house, stand, band, body, least, counted):
        graph, years = counted
        paper = seats_paper(house, stand, band, body, least=least)
        value, table, rows = paper
        self.assertEqual(value, min(years) if least else max(years))
        self.assertEqual(table, tuple(sorted(graph)))
        self.assertEqual(len(rows), years[value])
        self.assertEqual({type(paper), type(table), type(rows)}, {tuple})
        self.assertIs(type(value), int)
        if len(table) < 80:
            self.assertEqual(plain.seats_told(house, stand, band, body, paper, least), value)
        self.assertEqual(check_seats(house, stand, band, body, paper, least=least), value)
        if value != (max(years) if least else min(years)):
            with self.assertRaises(BadPaper) as caught:
                check_seats(house, stand, band, body, paper, least=not least)
            self.assertEqual(caught.exception.word, "table")

    def test_by_all_rows_of_some_years(self):
        # Bounds behind all rows that are within the band by point 13, not by states.
        for rng, house, stand, band in itertools.islice(mixed_cases(42, 2), 0, None, 3):
            body = rng.randrange(len(house[0]))
            low, high = bounds(house, stand, band, body)
            for rows in itertools.product(plain.all_rows(house[1]), repeat=4):
                now = stand
                for number, choices in enumerate(rows):
                    now = plain.stand_by_the_document(house, now, number, choices)
                    if plain.is_within(band, rows[:number + 1]):
                        self.assertTrue(low <= now[body].count("a") <= high)


class Papers(unittest.TestCase):
    def assert_told(self, case, paper, least, told):
        if isinstance(told, str):
            with self.assertRaises(BadPaper) as caught:
                check_seats(*case, paper, least=least)
            self.assertEqual(caught.exception.word, told)
        else:
            self.assertEqual(check_seats(*case, paper, least=least), told)

    def test_papers_with_one_part_otherwise(self):
        words = {}
        for rng, house, stand, band in mixed_cases(43):
            body, least = rng.randrange(len(house[0])), rng.choice((False, True))
            paper = seats_paper(house, stand, band, body, least=least)
            if len(paper[1]) > 60:
                continue
            for _ in range(12):
                other = changed(rng, paper)
                told = plain.seats_told(house, stand, band, body, other, least)
                words[told] = words.get(told, 0) + 1
                self.assert_told((house, stand, band, body), other, least, told)
        for word in ("form", "table", "rows", 0, 1):
            self.assertGreater(words[word], 20)

    def test_each_part_by_hand(self):
        for rng, house, stand, band in itertools.islice(mixed_cases(44), 0, None, 4):
            case = (house, stand, band, rng.randrange(len(house[0])))
            for least in (False, True):
                value, table, rows = paper = seats_paper(*case, least=least)
                worse, better = (value + 1, value - 1) if least else (value - 1, value + 1)
                tell = lambda other, told: self.assert_told(case, other, least, told)
                for form in (list(paper), paper[:2], paper + (0,), (), (float, table, rows), (-1, table, rows),
                             (10, table, rows), (HUGE, table, rows), (bool(value), table, rows),
                             (str(value), table, rows), (None, table, rows), ((value,), table, rows)):
                    tell(form, "form")
                if 0 <= worse <= 9:
                    tell((worse, table, rows), "table")
                if 0 <= better <= 9:
                    tell((better, table, rows), "rows")
                for wrong in (list(table), table + (table[-1],), (table[0],) + table, (None,) + table,
                              table + (None,), (), None, "", 0, table[:-1], table[1:], set(table),
                              dict.fromkeys(table), iter(table), (list(table[0]),) + table[1:]):
                    tell((value, wrong, rows), "table")
                if len(table) > 1:
                    tell((value, table[::-1], rows), "table")
                    at = rng.randrange(len(table))
                    tell((value, table[:at] + table[at + 1:], rows), "table")
                for wrong in (list(rows), (), None, "".join(rows), rows[:-1] + (None,), rows[:-1] + ((),),
                              rows[:-1] + ("a" * (house[1] + 1),), rows[:-1] + ("c" * house[1] or "c",),
                              rows + ("\n",), iter(rows), rows[:-1] + (list(rows[-1]),), {}, 0):
                    tell((value, table, wrong), "rows")

    def test_true_in_place_of_1(self):
        house = ((((2, 1, ("ward", 0)),),), 1)
        case = (house, ("b",), (1, 2), 0)
        value, table, rows = seats_paper(*case)
        self.assert_told(case, (True, table, rows), False, "form")
        for at, state in enumerate(table):
            for number in (0, 1):
                if state[1] == number:
                    wrong = state[:1] + (bool(number),) + state[2:]
                    self.assert_told(case, (value, replaced(table, (at,), wrong), rows), False, "table")
                if state[3] == (number,):
                    wrong = state[:3] + ((bool(number),),)
                    self.assert_told(case, (value, replaced(table, (at,), wrong), rows), False, "table")

    def test_rows_of_another_length(self):
        case = (TURNS, ("bbb",), (None, 1), 0)
        value, table, _ = seats_paper(*case)
        self.assertEqual(value, 3)
        for rows in (("a",) * 3, ("a",) * 4, ("b", "a", "a", "a"), ("a",) * 500, ("b",) * 1000 + ("a",) * 3):
            self.assert_told(case, (value, table, rows), False, 3)
        for rows in (("a",) * 2, ("a", "a", "b"), ("a",) * 3 + ("b",), ("b",)):
            self.assert_told(case, (value, table, rows), False, "rows")

    def test_rows_that_leave_the_band(self):
        kept = ((((1, 0, ("kept",)),),), 2)
        case = lambda band: (kept, ("a",), band, 0)
        for band, right, wrong in (
                ((0, 1), ("ab", "ab"), ("ab", "aa")), ((1, 1), ("ab", "aa", "ba"[::-1]), ("ab", "ba")),
                ((None, 2), ("ab", "ba", "ba", "ab"), ("ab", "ba", "ab")),
                ((2, 3), ("aa", "ab", "bb", "bb", "ba"), ("aa", "ab", "bb", "ba")),
                ((1, 2), ("aa", "ab", "bb", "ba"), ("aa", "ab", "aa")),
                ((2, 4), ("aa", "bb", "bb", "bb", "bb", "aa"), ("aa", "bb", "bb", "bb", "aa"))):
            value, table, _ = seats_paper(*case(band))
            self.assert_told(case(band), (value, table, right), False, 1)
            self.assert_told(case(band), (value, table, wrong), False, "rows")

    def test_states_that_never_come(self):
        taken = refused = 0
        for rng, house, stand, band in itertools.islice(mixed_cases(45), 0, None, 2):
            body, least = rng.randrange(len(house[0])), rng.choice((False, True))
            value, table, rows = seats_paper(house, stand, band, body, least=least)
            other = self.some_state(rng, house, band)
            whole = self.with_all_behind(house, band, table, other)
            if len(whole) > 60 or other in table:
                continue
            self.assertTrue(plain.is_state(house, band, other))
            case = (house, stand, band, body)
            paper = (value, tuple(sorted(whole)), rows)
            told = plain.seats_told(*case, paper, least)
            self.assert_told(case, paper, least, told)
            taken, refused = taken + (told == value), refused + (told == "table")
            if len(whole) > len(table) + 1:
                alone = (value, tuple(sorted(table + (other,))), rows)
                self.assert_told(case, alone, least, plain.seats_told(*case, alone, least))
            if len(whole) > 1:
                self.assert_told(case, (value, tuple(sorted(whole, reverse=True)), rows), least, "table")
        self.assertGreater(min(taken, refused), 9)

    def some_state(self, rng, house, band):
        """Any state by its form."""
        stand = tuple(["".join([rng.choice("ab") for _ in body]) for body in house[0]])
        number = rng.randrange(plain.round_of(house))
        if band == (None, 1) or rng.random() < 0.3:
            return (stand, number, "", ())
        last = rng.choice(plain.all_rows(house[1]))
        return (stand, number, last, tuple([rng.randrange(band[1]) for _ in last]))

    def with_all_behind(self, house, band, table, other):
        whole = list(dict.fromkeys(table + (other,)))
        for state in whole:
            whole += [one for _, one in plain.all_behind(house, band, state) if one not in whole]
        return whole

    def test_a_first_stand_with_more_seats_than_come(self):
        tie = ((((1, 0, ("rest", 0, "b")), (1, 0, ("rest", 0, "b"))),), 1)
        case = (tie, ("aa",), (None, 1), 0)
        table = ((("aa",), 0, "", ()), (("bb",), 0, "", ()))
        self.assert_told(case, (0, table, ("a",)), False, 0)
        self.assert_told(case, (0, table + ((("cc",), 0, "", ()),), ("a",)), False, "table")
        more = ((("aa",), 0, "", ()), (("ab",), 0, "", ()), (("ba",), 0, "", ()), (("bb",), 0, "", ()))
        self.assert_told(case, (0, more, ("b", "a")), False, 0)
        self.assert_told(case, (0, more[1:], ("b", "a")), False, "table")

    def test_last_of_a_year_ahead_where_none_is_told(self):
        # With (None, 1) LAST is never told; with other bands "" may stand anywhere.
        value, table, rows = seats_paper(ONE, ("a",), (None, 1), 0)
        self.assert_told((ONE, ("a",), (None, 1), 0), (value, table, rows), False, 1)
        wrong = tuple(sorted(table + ((("a",), 0, "a", (0,)),)))
        self.assert_told((ONE, ("a",), (None, 1), 0), (value, wrong, rows), False, "table")
        value, table, rows = seats_paper(ONE, ("a",), (4, 1), 0)
        right = tuple(sorted(table + ((("b",), 0, "", ()),)))
        self.assert_told((ONE, ("a",), (4, 1), 0), (value, right, rows), False, 1)
        for state in ((("b",), 0, "", (0,)), (("b",), 0, "a", ()), (("b",), 0, "a", (1,))):
            wrong = tuple(sorted(table + (state,)))
            self.assert_told((ONE, ("a",), (4, 1), 0), (value, wrong, rows), False, "table")

    def test_wards_that_cannot_turn_though_it_never_comes(self):
        # Both wards rest at once with TURN 1, which never comes, but is a state by its form.
        house = ((((1, 0, ("kept",)),),), 2)
        case = (house, ("a",), (1, 3), 0)
        value, table, rows = seats_paper(*case)
        other = (("a",), 0, "ab", (2, 2))
        self.assertNotIn(other, table)
        self.assert_told(case, (value, tuple(sorted(table + (other,))), rows), False, "table")
        whole = tuple(sorted(self.with_all_behind(house, (1, 3), table, other)))
        self.assertEqual(len(whole), len(table) + 2)
        self.assert_told(case, (value, whole, rows), False, 1)

    def test_things_in_the_place_of_each_part(self):
        case = (ONE, ("b",), (1, 2), 0)
        paper = seats_paper(*case)
        for path in [(), (0,), (1,), (2,), (1, 0), (1, 0, 0), (1, 0, 1), (1, 1, 2), (1, 1, 3), (1, 0, 0, 0),
                     (1, 1, 3, 0), (2, 0)]:
            for thing in things():
                other = replaced(paper, path, thing)
                at = paper
                for step in path:
                    at = at[step]
                number = type(thing) is int and 0 <= thing <= 9
                if path == () and thing_is(thing, (0, 0, 0)):
                    self.assert_told(case, other, False, "table")
                elif path == (0,) and number and thing != 1:
                    self.assert_told(case, other, False, "table" if thing == 0 else "rows")
                elif not thing_is(thing, at):
                    word = ("form", "form", "table", "rows")[path[0] + 1 if path else 0]
                    self.assert_told(case, other, False, word)

    def test_each_character(self):
        value, table, rows = seats_paper(ONE, ("b",), (1, 2), 0)
        for letter in CHARACTERS:
            told = 1 if letter == "a" else "rows"
            self.assert_told((ONE, ("b",), (1, 2), 0), (value, table, (letter,)), False, told)

    def test_the_word_that_is_listed_first(self):
        case = (ONE, ("b",), (None, 1), 0)
        self.assert_told(case, (None, None, None), False, "form")
        self.assert_told(case, (1, None, None), False, "table")
        self.assert_told(case, (1, seats_paper(*case)[1], None), False, "rows")


class FirstArgument(unittest.TestCase):
    CALLS = ((bounds, (), {}), (rows_to, (0,), {}), (seats_paper, (), {}), (seats_paper, (), {"least": True}),
             (check_seats, (None,), {}), (check_seats, (None,), {"least": True}))

    def test_things_in_the_place_of_each_argument(self):
        right = (ONE, ("a",), (None, 1), 0)
        errors = (BadHouse, BadStand, BadBand, BadNumber)
        for (function, more, named), thing in itertools.product(self.CALLS, things()):
            for place, error in enumerate(errors):
                if thing_is(thing, right[place]) or (place == 2 and thing_is(thing, (1, 1))):
                    continue
                # What stands behind is wrong too.
                for behind in ([None] * (3 - place), list(right[place + 1:])):
                    given = list(right[:place]) + [thing] + behind
                    with self.assertRaises(error) as caught:
                        function(*given, *[Hostile()] * len(more), **named)
                    if error in (BadStand, BadNumber):
                        self.assertIs(caught.exception.value, thing)

    def test_bodies(self):
        for rng, house, stand, band in itertools.islice(mixed_cases(46, 2), 0, None, 5):
            for function, more, named in self.CALLS:
                for body in (-1, len(house[0]), 3, HUGE, -HUGE, True, False, None, "0", (0,)):
                    with self.assertRaises(BadNumber) as caught:
                        function(house, stand, band, body, *more, **named)
                    self.assertIs(caught.exception.value, body)

    def test_numbers_of_seats(self):
        for many in range(10):
            told = rows_to(TURNS, ("bbb",), (None, 1), 0, many)
            self.assertEqual(told is None, many > 3)
        for thing in things() + [10, -1, True, False]:
            if type(thing) is not int or not 0 <= thing <= 9:
                with self.assertRaises(BadNumber) as caught:
                    rows_to(TURNS, ("bbb",), (None, 1), 0, thing)
                self.assertIs(caught.exception.value, thing)

    def test_too_many_states(self):
        for call in (lambda: bounds(*TOO_MANY_CASE, 0), lambda: rows_to(*TOO_MANY_CASE, 0, 0),
                     lambda: seats_paper(*TOO_MANY_CASE, 2), lambda: seats_paper(*TOO_MANY_CASE, 1, least=True)):
            with self.assertRaises(TooGreat) as caught:
                call()
            self.assertEqual(caught.exception.most, 20000)

    def test_too_many_states_are_told_of_last(self):
        for function, more, named in self.CALLS:
            with self.assertRaises(BadNumber):
                function(*TOO_MANY_CASE, 3, *more, **named)
        with self.assertRaises(BadNumber) as caught:
            rows_to(*TOO_MANY_CASE, 0, 10)
        self.assertEqual(caught.exception.value, 10)
        for paper, word in ((None, "form"), ((0, (), ()), "table"), ((0, ((TOO_MANY_CASE[1], 0, "", ()),), ()), "table")):
            with self.assertRaises(BadPaper) as caught:
                check_seats(*TOO_MANY_CASE, 0, paper)
            self.assertEqual(caught.exception.word, word)

    def test_a_paper_on_more_than_20000_states(self):
        house, stand, band = TOO_MANY_CASE
        steps, first = Steps(house, band, False), (stand, 0, "", ())
        whole, waiting = {first: ()}, [first]
        for state in waiting:
            for choices, behind in steps.steps_from(state).items():
                if behind not in whole:
                    whole[behind] = whole[state] + (choices,)
                    waiting.append(behind)
        self.assertEqual(len(whole), 20001)
        most = max([state[0][0].count("a") for state in waiting[1:]])
        rows = [whole[state] for state in waiting[1:] if state[0][0].count("a") == most][0]
        table = tuple(sorted(whole))
        self.assertEqual(check_seats(house, stand, band, 0, (most, table, rows)), most)
        for paper, word in (((most, table, ()), "rows"), ((most - 1, table, rows), "table"),
                            ((most, table[:-1], rows), "table")):
            with self.assertRaises(BadPaper) as caught:
                check_seats(house, stand, band, 0, paper)
            self.assertEqual(caught.exception.word, word)


if __name__ == "__main__":
    unittest.main()
