import itertools
import random
import unittest
from unittest import mock

from termseats import graphs
from termseats.errors import BadBand, BadHouse, BadPaper, TooGreat
from termseats.memory import check_memory, forgets_in, memory_paper
from tests import plain
from tests.test_states import thing_is
from tests.things import CHARACTERS, HUGE, Hostile, changed, mixed_cases, replaced, small_house, things

ANY = (None, 1)
# Three seats of one ward, one of which comes up each year.
SLOW = ((tuple([(3, phase, ("ward", 0)) for phase in range(3)]),), 1)
# One seat that keeps itself.
FIRM = ((((1, 0, ("kept",)),),), 1)
# Two seats: one of a ward each second year, and one that follows the body.
TWO = ((((2, 0, ("ward", 0)), (1, 0, ("body", 0, "kept"))),), 1)
# A kept seat, by which the stands are unlike for ever, and wards that come up one behind the other.
MANY = ((((1, 0, ("kept",)),), tuple([(5, place % 5, ("ward", place % 4)) for place in range(8)])), 4)


def unlike_graph(house, band):
    """The pair states of unlike stands that come, each with those of them behind it."""
    graph = plain.pair_graph_of(house, band)
    return {pair: {choices: behind for choices, behind in leads.items() if behind[0] != behind[1]}
            for pair, leads in graph.items() if pair[0] != pair[1]}


def least_heights(graph):
    """The least integer that each pair state can have, none for those from which unlike stands come for ever."""
    heights, level = {}, 0
    while True:
        level += 1
        fresh = [pair for pair in graph if pair not in heights and
                 all(behind in heights and heights[behind] < level for behind in graph[pair].values())]
        if not fresh:
            return heights
        for pair in fresh:
            heights[pair] = level


class ByHand(unittest.TestCase):
    def test_one_year(self):
        one = ((((1, 0, ("ward", 0)),),), 1)
        for band in (ANY, (0, 1), (None, 3)):
            self.assertEqual(forgets_in(one, band), 1)
            self.assertEqual(memory_paper(one, band), ("together", 1, (), (((("b",), ("a",), 0, "", ()), 1),)))
        self.assertEqual(forgets_in(((((1, 0, ("rest", 0, "a")),),), 0), ANY), 1)

    def test_several_years(self):
        self.assertEqual(forgets_in(SLOW, ANY), 3)
        self.assertEqual(forgets_in(((((6, 5, ("ward", 0)),),), 1), ANY), 6)
        # The seat follows the body 1 a year later.
        later = ((((1, 0, ("body", 1, "a")),), ((1, 0, ("ward", 0)),)), 1)
        self.assertEqual(forgets_in(later, ANY), 2)
        self.assertEqual(memory_paper(later, ANY)[:2], ("together", 2))

    def test_never(self):
        for band in (ANY, (0, 1), (2, 2)):
            self.assertIsNone(forgets_in(FIRM, band))
        self.assertEqual(memory_paper(FIRM, ANY)[:2], ("apart", ()))
        self.assertEqual(forgets_in(((((1, 0, ("kept",)),),), 0), ANY), None)

    def test_by_the_band(self):
        # A body that is its own majority turns only where the wards tell the same for long enough.
        seats = tuple([(2, 0, ("ward", 0)), (2, 1, ("ward", 1)), (2, 0, ("rest", 0, "kept"))])
        house = ((seats,), 2)
        self.assertEqual([forgets_in(house, band) for band in (ANY, (0, 1))],
                         [forgets_in(house, band) for band in ((4, 1), (0, 4))])

    def test_a_paper(self):
        self.assertEqual(memory_paper(((((2, 1, ("ward", 0)),),), 1), ANY)[3], (
            ((("b",), ("a",), 0, "", ()), 2), ((("b",), ("a",), 1, "", ()), 1)))


class ByThePlainWay(unittest.TestCase):
    def test_houses_of_each_size_with_each_band(self):
        found = {}
        for _, house, _, band in mixed_cases(81):
            graph = unlike_graph(house, band)
            heights = least_heights(graph)
            first = plain.ends_of(house) + (0, "", ())
            many = heights.get(first)
            self.assertEqual(forgets_in(house, band), many)
            paper = memory_paper(house, band)
            self.assertEqual(check_memory(house, band, paper), many)
            if len(graph) < 60:
                self.assertEqual(plain.memory_told(house, band, paper), many)
            if many is None:
                self.assertEqual((paper[0], len(paper)), ("apart", 3))
            else:
                self.assertEqual(paper[:2], ("together", many))
                self.assertEqual(len(paper[2]), many - 1)
                self.assertEqual(paper[3], tuple(sorted(heights.items())))
                self.assertEqual(len(paper[3]), len(graph))
                self.assertEqual({type(height) for _, height in paper[3]}, {int})
            self.assertEqual({type(part) for part in paper[2:]} | {type(paper)}, {tuple})
            found[many] = found.get(many, 0) + 1
        for many in (None, 1, 2, 3, 4):
            self.assertGreater(found[many], 4)

    def test_all_stands_by_all_rows(self):
        # Point 42 itself: from all stands, by all rows of so many years that are within the band.
        rng = random.Random(82)
        for at in range(120):
            bodies, wards = rng.randint(1, 2), rng.randint(0, 2)
            house = small_house(rng, bodies, wards, rng.randint(bodies, 3))
            band = rng.choice([ANY, (0, 1), (1, 1), (None, 2), (1, 3), (2, 4)])
            told = forgets_in(house, band)
            years = 5 if wards == 2 else 8
            if told is None or told > years:
                told = years + 1
            for many in range(years + 1):
                self.assertEqual(self.hangs(house, band, many), many < told)
                if many >= told:
                    break

    def hangs(self, house, band, many):
        """Whether the stand behind so many years hangs on the first one, by some rows."""
        rows = [()]
        for _ in range(many):
            rows = [row + (choices,) for row in rows for choices in plain.all_rows(house[1])
                    if plain.is_within(band, row + (choices,))]
        for row in rows:
            stands = set(plain.all_stands(house))
            for number, choices in enumerate(row):
                stands = {plain.stand_by_the_document(house, one, number, choices) for one in stands}
            if len(stands) > 1:
                return True
        return False


class Papers(unittest.TestCase):
    def assert_told(self, case, paper, told):
        if isinstance(told, str):
            with self.assertRaises(BadPaper) as caught:
                check_memory(*case, paper)
            self.assertEqual(caught.exception.word, told)
        else:
            self.assertEqual(check_memory(*case, paper), told)

    def papers(self, seed, word):
        for rng, house, _, band in mixed_cases(seed):
            paper = memory_paper(house, band)
            if paper[0] == word and len(paper[-1]) < 60:
                yield rng, (house, band), paper

    def test_papers_with_one_part_otherwise(self):
        words = {}
        for word in ("together", "apart"):
            for rng, case, paper in self.papers(83, word):
                for _ in range(20):
                    other = changed(rng, paper)
                    told = plain.memory_told(*case, other)
                    words[told] = words.get(told, 0) + 1
                    self.assert_told(case, other, told)
        for told in ("form", "together", "apart", None, 1, 2):
            self.assertGreater(words[told], 9)

    def test_heights(self):
        greater = 0
        for rng, case, paper in self.papers(84, "together"):
            word, many, rows, heights = paper
            tell = lambda other, told: self.assert_told(case, (word, many, rows, other), told)
            for at, (pair, height) in enumerate(heights[:8]):
                tell(replaced(heights, (at, 1), height - 1), "together")
                tell(replaced(heights, (at, 1), many + 1), "together")
                tell(replaced(heights, (at, 1), 0), "together")
                tell(replaced(heights, (at, 1), -1), "together")
                tell(heights[:at] + heights[at + 1:], "together")
                tell(heights[:at + 1] + heights[at:], "together")
                tell(tuple(sorted(heights + ((pair, height + 1),))), "together")
                told = plain.memory_told(*case, (word, many, rows, replaced(heights, (at, 1), height + 1)))
                greater += told == many
                tell(replaced(heights, (at, 1), height + 1), told)
                # Both stands are alike, or HIGH is not above LOW.
                low, high = pair[:2]
                for stands in ((low, low), (high, high), (high, low)):
                    tell(replaced(heights, (at, 0), stands + pair[2:]), "together")
                    tell(tuple(sorted(heights + ((stands + pair[2:], many),))), "together")
            if len(heights) > 1:
                tell(heights[::-1], "together")
            for other in (list(heights), dict(heights), (), None, heights + (None,), (None,) + heights,
                          tuple([list(one) for one in heights]), tuple([one + (0,) for one in heights]),
                          tuple([pair for pair, _ in heights]), iter(heights), 0):
                tell(other, "together")
        self.assertGreater(greater, 3)

    def test_number_and_rows(self):
        for rng, case, paper in self.papers(85, "together"):
            word, many, rows, heights = paper
            wards = case[0][1]
            for other in (many + 1, many - 1, -many, HUGE, None, str(many), (many,), bool(many), 0):
                self.assert_told(case, (word, other, rows, heights), "together")
            more = tuple([(pair, height + 1) for pair, height in heights])
            self.assert_told(case, (word, many + 1, rows, more), "together")
            self.assert_told(case, (word, many + 1, rows + ("a" * wards,), more), "together")
            self.assert_told(case, (word, many, rows, more), "together")
            for other in (list(rows), rows + ("a" * wards,), None, "".join(rows) or None, 0, iter(rows), {}):
                self.assert_told(case, (word, many, other, heights), "together")
            if rows:
                for other in ((), rows[:-1], rows[1:], rows[:-1] + (None,), rows[:-1] + ("a" * (wards + 1),),
                              rows[:-1] + (list(rows[-1]),), rows[:-1] + ("c" * (wards or 1),)):
                    self.assert_told(case, (word, many, other, heights), "together")

    def test_rows_behind_which_the_stands_are_alike(self):
        # The seat of the body 0 stays as it is only as long as the wards tell otherwise than one another.
        house = ((((1, 0, ("body", 1, "kept")),), ((1, 0, ("ward", 0)), (1, 0, ("ward", 1)))), 2)
        self.assertIsNone(forgets_in(house, ANY))
        for ahead, ring, told in (
                (("ab",), ("ab",), None), (("ba",), ("ab", "ba"), None), (("ab", "ba"), ("ba",), None),
                (("ab",), ("aa",), "apart"), (("ab",), ("aa", "ab"), "apart"), (("aa",), ("ab",), "apart"),
                (("aa", "ab"), ("ab",), "apart"), ((), ("ab",), "apart")):
            self.assert_told((house, ANY), ("apart", ahead, ring), told)
        self.assertEqual(forgets_in((house[0][:1] + (((1, 0, ("ward", 0)),) * 2,), 2), ANY), 2)
        slow = ((((1, 0, ("body", 1, "kept")),), ((1, 0, ("ward", 0)), (2, 1, ("ward", 0)))), 1)
        word, many, rows, heights = memory_paper(slow, (0, 1))
        self.assertEqual(plain.memory_told(slow, (0, 1), (word, many, rows, heights)), 3)
        for wrong in plain.all_rows(1):
            other = (word, many, (wrong, "a" if wrong == "b" else "b"), heights)
            self.assert_told((slow, (0, 1)), other, "together")

    def test_rows_that_leave_the_band(self):
        slow = ((tuple([(4, phase, ("ward", 0)) for phase in range(4)]),), 1)
        for band, right, wrong in (((0, 1), ("a", "a", "a"), ("a", "b", "b")), ((1, 2), ("a", "b", "b"), ("a", "b", "a")),
                                   ((None, 3), ("b", "a", "a"), ("b", "a", "b"))):
            word, many, _, heights = memory_paper(slow, band)
            self.assertEqual(many, 4)
            self.assert_told((slow, band), (word, many, right, heights), 4)
            self.assert_told((slow, band), (word, many, wrong, heights), "together")

    def test_pair_states_that_never_come(self):
        taken = refused = 0
        for rng, (house, band), paper in self.papers(86, "together"):
            word, many, rows, heights = paper
            low = rng.choice(plain.all_stands(house))
            high = tuple(["".join([rng.choice("a" + side) for side in letters]) for letters in low])
            last, ages = "", ()
            if band != ANY and rng.random() < 0.8:
                last = rng.choice(plain.all_rows(house[1]))
                ages = tuple([rng.randrange(band[1]) for _ in last])
            pair = (low, high, rng.randrange(plain.round_of(house)), last, ages)
            if low == high or pair in dict(heights):
                continue
            for height in range(1, many + 1):
                other = (word, many, rows, tuple(sorted(heights + ((pair, height),))))
                told = plain.memory_told(house, band, other)
                self.assert_told((house, band), other, told)
                taken, refused = taken + (told == many), refused + (told == word)
        self.assertGreater(min(taken, refused), 20)

    def test_forms_of_pair_states(self):
        case = (SLOW, (1, 2))
        word, many, rows, heights = memory_paper(*case)
        # Behind this year both stands are alike, so the pair state may be put in by itself.
        right = (("aab",), ("aaa",), 2, "b", (1,))
        self.assertNotIn(right, dict(heights))
        wrong = [right[:2] + (2, "b", (2,)), right[:2] + (2, "b", (-1,)), right[:2] + (2, "b", ()),
                 right[:2] + (2, "", (0,)), right[:2] + (3, "b", (1,)), right[:2] + (-1, "b", (1,)),
                 right[:2] + (2, "b", (True,)), right[:2] + (2, "bb", (1, 1)), right[:2] + (2, "c", (1,)),
                 (("aa",), ("aa",)) + right[2:], (("aab", "a"), ("aaa", "a")) + right[2:], right[:4], right + (0,),
                 right[:2] + (2, "b", (0, 0)), (("aaa",), ("aab",)) + right[2:]]
        put = lambda pair: (word, many, rows, tuple(sorted(heights + ((pair, 1),))))
        self.assert_told(case, put(right), 3)
        for height in (0, -1, 4, True):
            wrong_height = tuple(sorted(heights + ((right, height),)))
            self.assert_told(case, (word, many, rows, wrong_height), "together")
        self.assert_told(case, put(right[:2] + (2, "", ())), 3)
        # Behind the year 3, which is the year 0 of the next round, these would be alike too.
        wrong += [(("baa",), ("aaa",), 3, "b", (1,)), (("baa",), ("aaa",), False, "b", (1,))]
        self.assert_told(case, put((("baa",), ("aaa",), 0, "b", (1,))), 3)
        for pair in wrong:
            self.assert_told(case, put(pair), "together")
        paper = memory_paper(SLOW, ANY)
        more = tuple(sorted(paper[3] + ((right, 1),)))
        self.assert_told((SLOW, ANY), paper[:3] + (more,), "together")
        more = tuple(sorted(paper[3] + ((right[:2] + (2, "b", (0,)), 1),)))
        self.assert_told((SLOW, ANY), paper[:3] + (more,), "together")
        no_wards = ((((1, 0, ("rest", 0, "a")),),), 0)
        for band in (ANY, (0, 2)):
            self.assert_told((no_wards, band), memory_paper(no_wards, band), 1)

    def test_apart(self):
        found = 0
        for rng, case, paper in self.papers(87, "apart"):
            found += 1
            word, ahead, ring = paper
            wards = case[0][1]
            for right in ((ahead, ring * 2), (ahead + ring, ring), (ahead + ring[:1], ring[1:] + ring[:1])):
                self.assert_told(case, (word,) + right, None)
            for wrong in ((ahead, ()), (ahead, list(ring)), (list(ahead), ring), (ahead, None), (None, ring),
                          (ahead, ring + (None,)), (ahead + ("c" * (wards or 1),), ring), (ahead, "".join(ring) or 0),
                          (ahead, ring[:-1] + (ring[-1] + "b",)), (ahead, iter(ring)), (ahead, 0), (0, ring)):
                self.assert_told(case, (word,) + wrong, "apart")
        self.assertGreater(found, 30)

    def test_a_ring_that_does_not_close(self):
        long = ((((2, 0, ("kept",)),),), 1)
        self.assert_told((long, ANY), ("apart", (), ("a", "b")), None)
        self.assert_told((long, ANY), ("apart", (), ("a",)), "apart")
        # LAST is told, so the first pair state never comes again.
        self.assert_told((FIRM, (1, 1)), ("apart", (), ("b",)), "apart")
        self.assert_told((FIRM, (1, 1)), ("apart", ("b",), ("b",)), None)
        self.assert_told((FIRM, (1, 1)), ("apart", ("a",), ("b",)), "apart")
        self.assert_told((FIRM, (1, 2)), ("apart", ("a", "b"), ("b",)), "apart")
        self.assert_told((FIRM, (1, 2)), ("apart", ("a", "b", "b"), ("b",)), None)
        self.assert_told((FIRM, (0, 1)), ("apart", ("a",), ("b",)), "apart")
        self.assert_told((FIRM, (0, 1)), ("apart", ("a",), ("a",)), None)

    def test_a_ring_of_stands_that_are_alike(self):
        one = ((((1, 0, ("ward", 0)),),), 1)
        self.assert_told((one, ANY), ("apart", ("a",), ("a",)), "apart")
        self.assert_told((one, ANY), ("apart", (), ("a",)), "apart")
        self.assert_told((SLOW, ANY), ("apart", ("a",) * 3, ("a",) * 3), "apart")
        self.assert_told((SLOW, ANY), ("apart", (), ("a",) * 3), "apart")

    def test_true_in_place_of_1(self):
        case = (SLOW, (1, 2))
        word, many, rows, heights = memory_paper(*case)
        for at, ((_, _, number, _, ages), height) in enumerate(heights):
            if height == 1:
                self.assert_told(case, (word, many, rows, replaced(heights, (at, 1), True)), "together")
            if number < 2:
                other = replaced(heights, (at, 0, 2), bool(number))
                self.assert_told(case, (word, many, rows, other), "together")
            if ages:
                other = replaced(heights, (at, 0, 4), (bool(ages[0]),))
                self.assert_told(case, (word, many, rows, other), "together")
        one = ((((1, 0, ("ward", 0)),),), 1)
        word, many, rows, heights = memory_paper(one, ANY)
        self.assert_told((one, ANY), (word, 1, rows, heights), 1)
        self.assert_told((one, ANY), (word, True, rows, heights), "together")

    def test_things_in_the_place_of_the_paper_and_its_parts(self):
        cases = [((SLOW, (1, 2)), [(1,), (2,), (3,), (2, 0), (3, 0), (3, 0, 0), (3, 0, 1), (3, 0, 0, 0), (3, 0, 0, 1),
                                   (3, 0, 0, 0, 0), (3, 0, 0, 2), (3, 0, 0, 3), (3, 0, 0, 4), (3, 0, 0, 4, 0)]),
                 ((FIRM, (1, 2)), [(1,), (2,), (2, 0), (1, 0)])]
        for case, paths in cases:
            paper = memory_paper(*case)
            taken = 0
            for thing in things():
                self.assert_told(case, thing, "form")
                self.assert_told(case, replaced(paper, (0,), thing), "form")
                for path in paths:
                    other = replaced(paper, path, thing)
                    told = plain.memory_told(*case, other)
                    self.assert_told(case, other, told)
                    taken += told != paper[0]
            self.assertLess(taken, 20)

    def test_forms(self):
        case = (FIRM, ANY)
        for form in (("apart",), ("apart", ()), ("apart", (), ("b",), ()), ("together", 1, ()), (), ["apart", (), ("b",)],
                     ("Apart", (), ("b",)), ("together", (), ("b",)), ("apart", 1, (), ()), (b"apart", (), ("b",)),
                     ("together", 1, (), (), ()), ("bounded", 1, (), ()), ("endless", (), ("b",))):
            self.assert_told(case, form, "form")
        self.assert_told(case, ("together", 1, (), ()), "together")
        self.assert_told(case, ("apart", (), ()), "apart")

    def test_each_character(self):
        for letter in CHARACTERS:
            told = None if letter in ("a", "b") else "apart"
            self.assert_told((FIRM, ANY), ("apart", (), (letter,)), told)


class FirstArgument(unittest.TestCase):
    CALLS = ((forgets_in, ()), (memory_paper, ()), (check_memory, (None,)))

    def test_things_in_the_place_of_each_argument(self):
        for (function, more), thing in itertools.product(self.CALLS, things()):
            for band in (Hostile(), ANY):
                with self.assertRaises(BadHouse):
                    function(thing, band, *[Hostile()] * len(more))
            if not thing_is(thing, ANY) and not thing_is(thing, (1, 1)):
                with self.assertRaises(BadBand):
                    function(SLOW, thing, *[Hostile()] * len(more))

    def test_bands(self):
        for band, part in (((None, 0), "gap"), ((5, 0), "turn"), ((None,), "form"), ((True, 1), "turn")):
            for function, more in self.CALLS:
                with self.assertRaises(BadBand) as caught:
                    function(SLOW, band, *more)
                self.assertEqual(caught.exception.part, part)

    def test_too_many_pair_states(self):
        for function in (forgets_in, memory_paper):
            with self.assertRaises(TooGreat) as caught:
                function(MANY, (None, 4))
            self.assertEqual(caught.exception.most, 20000)
            with self.assertRaises(BadBand):
                function(MANY, (None, 5))
        for paper in (None, ("together", 5, ("aaaa",) * 4, ()), ("apart", (), ("aaaa",))):
            with self.assertRaises(BadPaper) as caught:
                check_memory(MANY, (None, 4), paper)
            self.assertEqual(caught.exception.word, paper[0] if paper else "form")

    def test_many_but_not_too_many_pair_states(self):
        self.assertEqual(forgets_in((MANY[0][1:], 4), ANY), 5)
        self.assertIsNone(forgets_in(MANY, (0, 1)))

    def test_just_as_many_as_may_come(self):
        for _, house, _, band in itertools.islice(mixed_cases(88), 0, None, 9):
            many = len(unlike_graph(house, band))
            with mock.patch.object(graphs, "MOST_STATES", many):
                told = forgets_in(house, band)
            with mock.patch.object(graphs, "MOST_STATES", many - 1):
                if many > 1:
                    for function in (forgets_in, memory_paper):
                        with self.assertRaises(TooGreat):
                            function(house, band)
            self.assertEqual(told, forgets_in(house, band))

    def test_like_stands_do_not_count(self):
        # Far more than 20,000 states come, but hardly a pair state of unlike stands.
        house = ((tuple([(1, 0, ("ward", place % 4)) for place in range(9)]),), 4)
        self.assertEqual(forgets_in(house, (None, 4)), 1)
        self.assertEqual(len(memory_paper(house, (None, 4))[3]), 1)


if __name__ == "__main__":
    unittest.main()
