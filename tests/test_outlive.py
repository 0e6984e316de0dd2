import itertools
import unittest

from termseats.errors import BadBand, BadHouse, BadNumber, BadPaper, BadStand, TooGreat
from termseats.outlive import check_outlive, outlive_paper, outlived
from tests import plain
from tests.test_states import ONE, TOO_MANY_CASE, thing_is
from tests.things import CHARACTERS, HUGE, Hostile, changed, mixed_cases, replaced, small_house, some_stand, things

ANY = (None, 1)
# Three seats of one ward, one of which comes up each year.
SLOW = ((tuple([(3, phase, ("ward", 0)) for phase in range(3)]),), 1)
# One seat that keeps itself, whatever the wards tell.
FIRM = ((((1, 0, ("body", 0, "kept")),),), 1)


def most_years(graph, body):
    """The most years on end that outlive, None if there is no most: by the states from which so many can come."""
    left, many = set(graph), 0
    while True:
        fewer = {state for state in left
                 if any(behind in left and plain.outlives(choices, behind[0], body)
                        for choices, behind in graph[state].items())}
        if not fewer:
            return many
        if fewer == left:
            return None
        left, many = fewer, many + 1


class ByHand(unittest.TestCase):
    def test_never(self):
        for band in (ANY, (None, 3), (0, 1)):
            self.assertEqual(outlived(ONE, ("a",), band, 0), 0)
            word, years, _, heights = outlive_paper(ONE, ("a",), band, 0)
            self.assertEqual((word, years), ("bounded", 0))
            self.assertEqual({height for _, height in heights}, {0})

    def test_for_some_years(self):
        # The seats come up one behind the other: behind the first of them two still have "a".
        self.assertEqual(outlived(SLOW, ("aaa",), ANY, 0), 1)
        self.assertEqual(outlived(SLOW, ("aaa",), (0, 1), 0), 1)
        self.assertEqual(outlived(SLOW, ("abb",), (0, 1), 0), 0)
        slower = ((tuple([(5, phase, ("ward", 0)) for phase in range(5)]),), 1)
        self.assertEqual(outlived(slower, ("aaaaa",), ANY, 0), 2)
        self.assertEqual(outlived(slower, ("aaaab",), (0, 1), 0), 1)
        self.assertEqual(outlived(slower, ("baaaa",), (0, 1), 0), 2)

    def test_for_ever(self):
        self.assertIsNone(outlived(FIRM, ("a",), ANY, 0))
        self.assertEqual(outlive_paper(FIRM, ("a",), ANY, 0), ("endless", (), ("b",)))
        self.assertEqual(outlived(FIRM, ("b",), ANY, 0), 0)
        self.assertIsNone(outlived(FIRM, ("a",), (0, 4), 0))

    def test_just_half_of_the_seats_is_no_majority(self):
        kept = ((1, 0, ("kept",)),)
        for letters, told in (("ab", 0), ("aa", None), ("bb", 0), ("aabb", 0), ("aaab", None), ("bba", 0)):
            self.assertEqual(outlived(((kept * len(letters),), 1), (letters,), ANY, 0), told)

    def test_just_half_of_the_wards_is_no_majority(self):
        for wards in (2, 4):
            half = ((((1, 0, ("kept",)),),), wards)
            # Within (0, 1) the wards tell for ever as in the year 0.
            self.assertIsNone(outlived(half, ("a",), (0, 1), 0))
            choices = "b" * (wards // 2) + "a" * (wards // 2)
            self.assert_refused((half, ("a",), (0, 1), 0), ("endless", (choices,), (choices,)), "endless")
            more = "b" + choices[:-1]
            self.assertIsNone(check_outlive(half, ("a",), (0, 1), 0, ("endless", (more,), (more,))))

    def assert_refused(self, case, paper, word):
        with self.assertRaises(BadPaper) as caught:
            check_outlive(*case, paper)
        self.assertEqual(caught.exception.word, word)

    def test_no_wards(self):
        firm = ((((1, 0, ("body", 0, "kept")),),), 0)
        for band in (ANY, (0, 1), (4, 4)):
            self.assertEqual(outlived(firm, ("a",), band, 0), 0)
            self.assertEqual(outlive_paper(firm, ("a",), band, 0), (
                "bounded", 0, (), (((("a",), 0, "", ()), 0),)))
            self.assert_refused((firm, ("a",), band, 0), ("endless", (), ("",)), "endless")

    def test_each_body_by_itself(self):
        house = (FIRM[0] + ((((1, 0, ("ward", 0))),),) + SLOW[0], 1)
        self.assertEqual([outlived(house, ("a", "a", "aaa"), ANY, body) for body in range(3)], [None, 0, 1])

    def test_years_on_end(self):
        # It outlives in years that do not stand one behind the other, for ever, and yet in one on end at most.
        house = ((((2, 0, ("ward", 0)),),), 1)
        self.assertEqual(outlived(house, ("b",), ANY, 0), 1)

    def test_the_end_of_the_year_counts(self):
        house = ((((1, 0, ("body", 1, "a")),), ((1, 0, ("ward", 0)),)), 1)
        # The body 0 follows a year later; in the body 1 nothing outlives.
        self.assertEqual(outlived(house, ("b", "b"), ANY, 0), 1)
        self.assertEqual(outlived(house, ("a", "a"), ANY, 1), 0)


class ByThePlainWay(unittest.TestCase):
    def test_houses_of_each_size_with_each_band(self):
        kinds = {}
        for _, house, stand, band in mixed_cases(51):
            graph = plain.graph_of(house, stand, band)
            for body in range(len(house[0])):
                case = (house, stand, band, body)
                years = most_years(graph, body)
                self.assertEqual(outlived(*case), years)
                paper = outlive_paper(*case)
                self.assertEqual(check_outlive(*case, paper), years)
                if len(graph) < 80:
                    self.assertEqual(plain.outlive_told(*case, paper), years)
                self.assertEqual({type(one) for one in paper[2:]} | {type(paper)}, {tuple})
                if years is None:
                    self.assertEqual((paper[0], len(paper)), ("endless", 3))
                else:
                    self.assertEqual((paper[:2], len(paper)), (("bounded", years), 4))
                    self.assertEqual([state for state, _ in paper[3]], sorted(graph))
                    self.assertEqual({type(height) for _, height in paper[3]}, {int})
                kinds[years] = kinds.get(years, 0) + 1
        for years in (None, 0, 1, 2):
            self.assertGreater(kinds[years], 9)


class Papers(unittest.TestCase):
    def assert_told(self, case, paper, told):
        if isinstance(told, str):
            with self.assertRaises(BadPaper) as caught:
                check_outlive(*case, paper)
            self.assertEqual(caught.exception.word, told)
        else:
            self.assertEqual(check_outlive(*case, paper), told)

    def test_papers_with_one_part_otherwise(self):
        words = {}
        for rng, house, stand, band in mixed_cases(52):
            case = (house, stand, band, rng.randrange(len(house[0])))
            paper = outlive_paper(*case)
            if len(paper[-1]) > 60:
                continue
            for _ in range(12):
                other = changed(rng, paper)
                told = plain.outlive_told(*case, other)
                words[told] = words.get(told, 0) + 1
                self.assert_told(case, other, told)
        for word in ("form", "bounded", "endless", None, 0, 1):
            self.assertGreater(words[word], 9)

    def bounded_cases(self, seed, years):
        """Cases with a bounded paper on at least so many years."""
        for rng, house, stand, band in mixed_cases(seed):
            case = (house, stand, band, rng.randrange(len(house[0])))
            paper = outlive_paper(*case)
            if paper[0] == "bounded" and paper[1] >= years and len(paper[3]) < 300:
                yield rng, case, paper

    def test_heights(self):
        for rng, case, paper in self.bounded_cases(53, 1):
            _, years, rows, heights = paper
            tell = lambda other, told: self.assert_told(case, ("bounded", years, rows, other), told)
            # Too small: a state behind which a year outlives, with the height of the one behind.
            for at, (state, height) in enumerate(heights):
                if height > 0:
                    tell(replaced(heights, (at, 1), height - 1), "bounded")
                tell(replaced(heights, (at, 1), years + 1), "bounded")
                tell(replaced(heights, (at, 1), -1), "bounded")
                tell(heights[:at] + heights[at + 1:], "bounded")
                tell(heights[:at] + heights[at:at + 1] + heights[at:], "bounded")
                twice = tuple(sorted([*heights, (state, (height + 1) % (years + 1))]))
                tell(twice, "bounded")
                if at > 7:
                    break
            tell(heights[::-1], "bounded")
            tell(list(heights), "bounded")
            tell(dict(heights), "bounded")
            tell(tuple([list(pair) for pair in heights]), "bounded")
            tell(tuple([pair + (0,) for pair in heights]), "bounded")
            tell(tuple([state for state, _ in heights]), "bounded")
            tell((), "bounded")

    def test_heights_that_are_greater_than_need_be(self):
        taken = 0
        for rng, case, paper in itertools.islice(self.bounded_cases(54, 1), 40):
            _, years, rows, heights = paper
            for at, (_, height) in enumerate(heights[:12]):
                other = ("bounded", years, rows, replaced(heights, (at, 1), height + 1))
                told = plain.outlive_told(*case, other)
                self.assert_told(case, other, told)
                taken += told == years
        self.assertGreater(taken, 20)

    def test_years(self):
        for rng, case, paper in self.bounded_cases(55, 0):
            word, years, rows, heights = paper
            for other in (years + 1, years - 1, -1, HUGE, None, str(years), bool(years), (years,)):
                self.assert_told(case, (word, other, rows, heights), "bounded")
            # Heights that are greater do not help where the rows are not such.
            more = tuple([(state, height + 1) for state, height in heights])
            self.assert_told(case, (word, years + 1, rows, more), "bounded")
            self.assert_told(case, (word, years, rows, more), "bounded")

    def test_rows(self):
        for rng, case, paper in self.bounded_cases(56, 1):
            word, years, rows, heights = paper
            wards = case[0][1]
            for other in (list(rows), (), rows[:-1], rows[:-1] + ("a" * wards,), None, rows[:-1] + (None,),
                          rows[:-1] + ("b" * (wards + 1),), rows[:-1] + (list(rows[-1]),), "".join(rows), 0,
                          rows + ("\n",), iter(rows), dict.fromkeys(rows), set(rows)):
                self.assert_told(case, (word, years, other, heights), "bounded")

    def test_rows_where_it_never_outlives(self):
        word, years, _, heights = outlive_paper(ONE, ("a",), ANY, 0)
        self.assertEqual(years, 0)
        for rows in ((), ("a",), ("a", "b", "b"), ("b",) * 500):
            self.assert_told((ONE, ("a",), ANY, 0), (word, 0, rows, heights), 0)
        for rows in ([], None, ("c",), ("a", "")):
            self.assert_told((ONE, ("a",), ANY, 0), (word, 0, rows, heights), "bounded")
        word, years, _, heights = outlive_paper(ONE, ("a",), (0, 1), 0)
        self.assert_told((ONE, ("a",), (0, 1), 0), (word, 0, ("a", "a"), heights), 0)
        self.assert_told((ONE, ("a",), (0, 1), 0), (word, 0, ("a", "b"), heights), "bounded")

    def test_the_last_years_are_such(self):
        word, years, _, heights = outlive_paper(SLOW, ("aaa",), ANY, 0)
        self.assertEqual(years, 1)
        for rows, told in ((("b",), 1), (("a", "b"), 1), (("a",) * 400 + ("b",), 1), (("b", "a"), "bounded"),
                           (("b", "b"), "bounded"), (("a",), "bounded"), ((), "bounded")):
            self.assert_told((SLOW, ("aaa",), ANY, 0), (word, years, rows, heights), told)

    def test_states_that_never_come(self):
        paper = outlive_paper(ONE, ("a",), (0, 2), 0)
        heights = paper[3]
        case = (ONE, ("a",), (0, 2), 0)
        self.assert_told(case, paper, 0)
        for state in ((("b",), 0, "", ()), (("b",), 0, "b", (1,)), (("b",), 0, "a", (1,)), (("a",), 0, "b", (0,))):
            more = tuple(sorted(heights + ((state, 0),)))
            self.assertNotIn(state, [one for one, _ in heights])
            self.assert_told(case, paper[:3] + (more,), 0)
        for state in ((("b",), -1, "b", (0,)), (("b",), 0, "b", (-1,)), (("b",), -1, "", ()), (("b",), 0, "b", (True,)),
                      (("b",), False, "b", (0,)), (("b",), 1, "", ()), (("b",), 0, "b", ()), (("b",), 0, "", (0,)), (("b",), 0, "b", (2,)),
                      (("ab",), 0, "b", (0,)), (("b",), 0, "ab", (0,)), (("b",), 0, "b", (0, 0))):
            more = tuple(sorted(heights + ((state, 0),)))
            self.assert_told(case, paper[:3] + (more,), "bounded")

    def test_a_state_without_those_behind_it(self):
        # Behind "aab" in a year of "b" no state of the paper from "bbb" stands.
        case = (SLOW, ("bbb",), (0, 1), 0)
        paper = outlive_paper(*case)
        alone = (("aab",), 0, "b", (0,))
        self.assertNotIn(alone, [state for state, _ in paper[3]])
        self.assert_told(case, paper[:3] + (tuple(sorted(paper[3] + ((alone, 0),))),), "bounded")

    def test_endless(self):
        found = 0
        for rng, house, stand, band in mixed_cases(57):
            case = (house, stand, band, rng.randrange(len(house[0])))
            paper = outlive_paper(*case)
            if paper[0] != "endless":
                continue
            found += 1
            _, ahead, ring = paper
            wards = house[1]
            for right in ((ahead, ring * 2), (ahead + ring, ring), (ahead + ring[:1], ring[1:] + ring[:1])):
                self.assert_told(case, ("endless",) + right, None)
            for wrong in ((ahead, ()), (ahead, list(ring)), (list(ahead), ring), (ahead, None), (None, ring),
                          (ahead, ring + ("a" * wards,)), (ahead, ("a" * wards,)), (ahead, ring + (None,)),
                          (ahead + ("c" * wards,), ring), (ahead, "".join(ring)), ("".join(ahead), ring),
                          (ahead, ring[:-1] + (ring[-1] + "b",)), (ahead, iter(ring)), (ahead, 0), (0, ring)):
                self.assert_told(case, ("endless",) + wrong, "endless")
        self.assertGreater(found, 30)

    def test_a_ring_that_does_not_close(self):
        # Each year of the ring is such, but the state behind it is another one.
        long = ((((2, 0, ("body", 0, "kept")),),), 1)
        self.assert_told((long, ("a",), ANY, 0), ("endless", (), ("b", "b")), None)
        self.assert_told((long, ("a",), ANY, 0), ("endless", (), ("b",)), "endless")
        # LAST is told, so the first state never comes again.
        self.assert_told((FIRM, ("a",), (1, 1), 0), ("endless", (), ("b",)), "endless")
        self.assert_told((FIRM, ("a",), (1, 1), 0), ("endless", ("b",), ("b",)), None)
        self.assert_told((FIRM, ("a",), (1, 1), 0), ("endless", ("a",), ("b",)), "endless")
        # A ward that has turned is not yet free to turn again.
        self.assert_told((FIRM, ("a",), (1, 2), 0), ("endless", ("a", "b"), ("b",)), "endless")
        self.assert_told((FIRM, ("a",), (1, 2), 0), ("endless", ("a", "b", "b"), ("b",)), None)

    def test_a_ring_with_a_year_that_is_not_such(self):
        self.assert_told((FIRM, ("a",), ANY, 0), ("endless", (), ("b", "b")), None)
        self.assert_told((FIRM, ("a",), ANY, 0), ("endless", (), ("b", "a")), "endless")
        self.assert_told((FIRM, ("a",), ANY, 0), ("endless", (), ("a",)), "endless")
        self.assert_told((FIRM, ("b",), ANY, 0), ("endless", (), ("b",)), "endless")
        turning = ((((1, 0, ("ward", 1)),),), 3)
        self.assert_told((turning, ("a",), ANY, 0), ("endless", (), ("bab",)), None)
        self.assert_told((turning, ("a",), ANY, 0), ("endless", (), ("bab", "bbb", "bab")), "endless")

    def test_rows_that_leave_the_band(self):
        two = ((((1, 0, ("body", 0, "kept")),),), 2)
        case = lambda band: (two, ("a",), band, 0)
        self.assert_told(case((1, 1)), ("endless", ("ab", "bb"), ("bb",)), None)
        self.assert_told(case((1, 1)), ("endless", ("aa", "bb"), ("bb",)), "endless")
        self.assert_told(case((0, 1)), ("endless", ("bb",), ("bb",)), None)
        self.assert_told(case((0, 1)), ("endless", ("ab",), ("bb",)), "endless")
        three = ((((1, 0, ("body", 0, "kept")),),), 3)
        turning = ("endless", ("bba",), ("bab", "bba"))
        self.assert_told((three, ("a",), (2, 1), 0), turning, None)
        self.assert_told((three, ("a",), (2, 2), 0), turning, "endless")
        self.assert_told((three, ("a",), (1, 1), 0), turning, "endless")

    def test_true_in_place_of_1(self):
        case = (SLOW, ("aaa",), (1, 2), 0)
        word, years, rows, heights = outlive_paper(*case)
        self.assertEqual(years, 1)
        self.assert_told(case, (word, True, rows, heights), "bounded")
        for at, ((_, number, _, ages), height) in enumerate(heights):
            self.assert_told(case, (word, years, rows, replaced(heights, (at, 1), bool(height))), "bounded")
            if number < 2:
                other = replaced(heights, (at, 0, 1), bool(number))
                self.assert_told(case, (word, years, rows, other), "bounded")
            if ages:
                other = replaced(heights, (at, 0, 3), (bool(ages[0]),))
                self.assert_told(case, (word, years, rows, other), "bounded")

    def test_things_in_the_place_of_the_paper_and_its_parts(self):
        cases = [((SLOW, ("aaa",), (1, 2), 0), [(1,), (2,), (3,), (2, 0), (3, 0), (3, 0, 0), (3, 0, 1), (3, 1, 0, 0),
                                                (3, 1, 0, 1), (3, 1, 0, 2), (3, 1, 0, 3), (3, 1, 0, 3, 0)]),
                 ((FIRM, ("a",), (1, 2), 0), [(1,), (2,), (2, 0), (1, 0)])]
        for case, paths in cases:
            paper = outlive_paper(*case)
            taken = 0
            for thing in things():
                self.assert_told(case, thing, "form")
                self.assert_told(case, replaced(paper, (0,), thing), "form")
                for path in paths:
                    # A few things are rows or heights that will do as well.
                    other = replaced(paper, path, thing)
                    told = plain.outlive_told(*case, other)
                    self.assert_told(case, other, told)
                    taken += told != paper[0]
            self.assertLess(taken, 20)

    def test_forms(self):
        case = (FIRM, ("a",), ANY, 0)
        for form in (("endless",), ("endless", ()), ("endless", (), ("b",), ()), ("bounded", (), ("b",)), (),
                     ["endless", (), ("b",)], ("Endless", (), ("b",)), ("bounded", 0, ()), ("other", (), ("b",)),
                     ("endless", 0, (), ()), ("bounded", 0, (), (), ()), (b"endless", (), ("b",))):
            self.assert_told(case, form, "form")
        self.assert_told(case, ("bounded", 0, (), ()), "bounded")
        self.assert_told(case, ("endless", (), ()), "endless")

    def test_each_character(self):
        for letter in CHARACTERS:
            self.assert_told((FIRM, ("a",), ANY, 0), ("endless", (), (letter,)), None if letter == "b" else "endless")


class FirstArgument(unittest.TestCase):
    CALLS = ((outlived, ()), (outlive_paper, ()), (check_outlive, (None,)))

    def test_things_in_the_place_of_each_argument(self):
        right = (ONE, ("a",), ANY, 0)
        errors = (BadHouse, BadStand, BadBand, BadNumber)
        for (function, more), thing in itertools.product(self.CALLS, things()):
            for place, error in enumerate(errors):
                if thing_is(thing, right[place]) or (place == 2 and thing_is(thing, (1, 1))):
                    continue
                for behind in ([None] * (3 - place), list(right[place + 1:])):
                    given = list(right[:place]) + [thing] + behind
                    with self.assertRaises(error) as caught:
                        function(*given, *[Hostile()] * len(more))
                    if error in (BadStand, BadNumber):
                        self.assertIs(caught.exception.value, thing)

    def test_bodies(self):
        for rng, house, stand, band in itertools.islice(mixed_cases(58, 2), 0, None, 5):
            for function, more in self.CALLS:
                for body in (-1, len(house[0]), 3, HUGE, True, False, None, "0"):
                    with self.assertRaises(BadNumber) as caught:
                        function(house, stand, band, body, *more)
                    self.assertIs(caught.exception.value, body)

    def test_too_many_states(self):
        for function in (outlived, outlive_paper):
            for body in range(3):
                with self.assertRaises(TooGreat) as caught:
                    function(*TOO_MANY_CASE, body)
                self.assertEqual(caught.exception.most, 20000)
            with self.assertRaises(BadNumber):
                function(*TOO_MANY_CASE, 3)
        self.assert_refused(None, "form")
        self.assert_refused(("bounded", 0, (), (((TOO_MANY_CASE[1], 0, "", ()), 0),)), "bounded")
        self.assert_refused(("endless", (), ("aaaa",)), "endless")

    def assert_refused(self, paper, word):
        with self.assertRaises(BadPaper) as caught:
            check_outlive(*TOO_MANY_CASE, 0, paper)
        self.assertEqual(caught.exception.word, word)

    def test_an_endless_paper_where_too_many_states_come(self):
        # The three kept seats stay, so the majority outlives its support for ever.
        seats = tuple([(5, place, ("ward", place % 4)) for place in range(5)])
        house = ((((1, 0, ("kept",)),) * 3, seats), 4)
        with self.assertRaises(TooGreat):
            outlived(house, ("aaa", "aaaaa"), (None, 4), 0)
        paper = ("endless", ("bbbb",) * 5, ("bbbb",) * 5)
        self.assertIsNone(check_outlive(house, ("aaa", "aaaaa"), (None, 4), 0, paper))


if __name__ == "__main__":
    unittest.main()
