import itertools
import math
import random
import unittest

from termseats.errors import BadHouse, BadPhases
from termseats.houses import need_house
from termseats.phases import busiest, loads, phases_of, spread, with_phases
from termseats.years import due_seats
from tests import plain
from tests.refusing import Refusing
from tests.things import HUGE, changed, replaced, small_house, some_cases, some_house, things

KEPT = ("kept",)
HOUSE = ((((4, 3, ("ward", 0)), (1, 0, KEPT)), ((2, 1, ("body", 0, "a")),), ((3, 0, KEPT), (6, 5, ("rest", 1, "kept")))), 1)


def plain_loads(house):
    return tuple([sum([number % term == phase for body in house[0] for term, phase, _ in body])
                  for number in range(plain.round_of(house))])


def all_phases(house):
    """All PHASES of a house, ascending."""
    return itertools.product(*[itertools.product(*[range(seat[0]) for seat in body]) for body in house[0]])


def of_terms(*bodies):
    return (tuple([tuple([(term, 0, KEPT) for term in body]) for body in bodies]), 0)


def put(house, phases):
    return (tuple([tuple([(seat[0], phase, seat[2]) for seat, phase in zip(body, row)])
                   for body, row in zip(house[0], phases)]), house[1])


class PhasesOf(Refusing):
    def test_of_all_sorts(self):
        self.assertEqual(phases_of(HOUSE), ((3, 0), (1,), (0, 5)))
        for _, house, _ in some_cases(100, 131):
            told = phases_of(house)
            self.assertEqual(told, tuple([tuple([seat[1] for seat in body]) for body in house[0]]))
            self.assertEqual(with_phases(house, told), house)

    def test_refused(self):
        for function in (phases_of, loads, busiest, spread):
            self.assert_first(function, (HOUSE,), (BadHouse,))
            self.assert_things(function, (HOUSE,), (BadHouse,))
            self.assert_refused(BadHouse, "place", "round", function, of_terms([4, 5]))


class WithPhases(Refusing):
    def test_all_phases(self):
        for phases in all_phases(HOUSE):
            told = with_phases(HOUSE, phases)
            self.assertEqual(told, put(HOUSE, phases))
            self.assertIs(need_house(told), told)
            self.assertEqual(phases_of(told), phases)

    def test_of_all_sorts(self):
        for rng, house, _ in some_cases(200, 132):
            phases = tuple([tuple([rng.randrange(seat[0]) for seat in body]) for body in house[0]])
            self.assertEqual(with_phases(house, phases), put(house, phases))

    def test_what_are_no_phases(self):
        right = phases_of(HOUSE)
        wrong = [(), right[:2], right + ((0,),), right[::-1], list(right), tuple([list(row) for row in right]), (3, 0, 1, 0, 5),
                 ((3, 0), (1, 0), (0, 5)), ((3, 0), (), (0, 5)), ((3, 0), 1, (0, 5)), ((3,), (1,), (0, 5)), None, 0, "000",
                 ("30", "1", "05"), iter(right), ((3, 0), (1,), (0, 5), ())]
        for body, row in enumerate(right):
            for place, seat in enumerate(HOUSE[0][body]):
                for phase in (seat[0], seat[0] + 1, -1, -seat[0], HUGE, -HUGE, True, False, None, "0", (0,), b"0"):
                    wrong.append(replaced(right, (body, place), phase))
        for phases in wrong:
            with self.assertRaises(BadPhases) as caught:
                with_phases(HOUSE, phases)
            self.assertIs(caught.exception.value, phases)

    def test_true_and_false_are_no_phases(self):
        house = of_terms([2, 2], [2])
        self.assertEqual(phases_of(with_phases(house, ((0, 1), (1,)))), ((0, 1), (1,)))
        for phases in (((False, 1), (1,)), ((0, True), (1,)), ((0, 1), (True,))):
            with self.assertRaises(BadPhases):
                with_phases(house, phases)

    def test_changed_phases(self):
        rng = random.Random(133)
        taken = refused = 0
        for _ in range(600):
            house = some_house(rng)
            phases = changed(rng, tuple([tuple([rng.randrange(seat[0]) for seat in body]) for body in house[0]]))
            if self.right(house, phases):
                taken += 1
                self.assertEqual(phases_of(with_phases(house, phases)), phases)
            else:
                refused += 1
                with self.assertRaises(BadPhases):
                    with_phases(house, phases)
        self.assertGreater(min(taken, refused), 15)

    def right(self, house, phases):
        if type(phases) is not tuple or len(phases) != len(house[0]):
            return False
        for row, body in zip(phases, house[0]):
            if type(row) is not tuple or len(row) != len(body):
                return False
            if not all(type(phase) is int and 0 <= phase < seat[0] for phase, seat in zip(row, body)):
                return False
        return True

    def test_the_order(self):
        self.assert_first(with_phases, (HOUSE, phases_of(HOUSE)), (BadHouse, BadPhases))
        self.assert_things(with_phases, (HOUSE, phases_of(HOUSE)), (BadHouse, BadPhases))


class Loads(unittest.TestCase):
    def test_by_hand(self):
        self.assertEqual(loads(HOUSE), (2, 2, 1, 4, 1, 3, 2, 3, 1, 3, 1, 4))
        self.assertEqual(busiest(HOUSE), (4, 3))
        self.assertEqual(loads(of_terms([1])), (1,))
        self.assertEqual(busiest(of_terms([1])), (1, 0))
        self.assertEqual(loads(of_terms([2] * 5, [2] * 4)), (9, 0))
        self.assertEqual(busiest(put(of_terms([3, 3, 3]), ((2, 2, 1),))), (2, 2))

    def test_of_all_sorts(self):
        for _, house, _ in some_cases(200, 134):
            told = plain_loads(house)
            self.assertEqual(loads(house), told)
            self.assertEqual(loads(house), tuple([len(due_seats(house, number)) for number in range(len(told))]))
            self.assertEqual(busiest(house), (max(told), told.index(max(told))))


class Spread(unittest.TestCase):
    def test_against_trying_all_phases(self):
        rng = random.Random(135)
        cases = [small_house(rng, bodies, 1, rng.randint(bodies, 5)) for bodies in (1, 2, 3) for _ in range(40)]
        cases += [of_terms(*bodies) for bodies in (
            [[2], [4]], [[2, 2], [4]], [[6, 4, 3]], [[4, 4, 3], [3, 6]], [[3, 4], [2, 6]], [[5, 2, 1], [5]], [[1, 1], [1], [1]],
            [[6, 6, 4]], [[2, 3, 4, 6]], [[6, 4], [3, 2], [1]], [[2, 4, 4, 2]], [[3, 2, 2, 6]], [[4, 2], [3, 6, 1]])]
        for house in cases:
            least, phases = min([(max(plain_loads(put(house, phases))), phases) for phases in all_phases(house)])
            self.assertEqual(spread(house), (least, phases))
            self.assertEqual(busiest(with_phases(house, phases))[0], least)

    def test_the_phases_of_the_house_itself_do_not_count(self):
        rng = random.Random(136)
        for _ in range(40):
            house = some_house(rng)
            phases = tuple([tuple([rng.randrange(seat[0]) for seat in body]) for body in house[0]])
            self.assertEqual(spread(with_phases(house, phases)), spread(house))

    def test_of_all_sorts(self):
        for _, house, _ in some_cases(60, 137):
            most, phases = spread(house)
            self.assertEqual(max(plain_loads(with_phases(house, phases))), most)
            # No less is there: as many seats come up in a round by all phases.
            years = plain.round_of(house)
            self.assertGreaterEqual(most * years, sum(plain_loads(house)))
            self.assertLessEqual(most, busiest(house)[0])

    def test_a_house_of_nine_seats(self):
        self.assertEqual(spread(of_terms([3] * 9)), (3, ((0, 0, 0, 1, 1, 1, 2, 2, 2),)))
        self.assertEqual(spread(of_terms([3] * 4, [3] * 5)), (3, ((0, 0, 0, 1), (1, 1, 2, 2, 2))))
        self.assertEqual(spread(of_terms([6] * 9)), (2, ((0, 0, 1, 1, 2, 2, 3, 3, 4),)))
        self.assertEqual(spread(of_terms([2] * 3, [2] * 3, [2] * 3)), (5, ((0, 0, 0), (0, 0, 1), (1, 1, 1))))
        self.assertEqual(spread(of_terms([1] * 9)), (9, ((0,) * 9,)))
        self.assertEqual(spread(of_terms([5] * 5, [2] * 4)), (3, ((0, 1, 2, 3, 4), (0, 0, 1, 1))))
        house = of_terms([4, 3, 2], [2, 3, 2], [2, 4, 3])
        self.assertEqual(spread(house), min([
            (max(plain_loads(put(house, phases))), phases) for phases in all_phases(house)]))

    def test_the_example(self):
        self.assertEqual(spread(((((2, 1, KEPT), (2, 0, KEPT)), ((4, 3, KEPT),)), 0)), (2, ((0, 0), (1,))))

    def test_all_terms_of_four_seats(self):
        for terms in itertools.combinations_with_replacement((1, 2, 3, 4, 5, 6), 4):
            if math.lcm(*terms) <= 12:
                house = of_terms(terms[:2], terms[:1:-1])
                self.assertEqual(spread(house), min([
                    (max(plain_loads(put(house, phases))), phases) for phases in all_phases(house)]))


if __name__ == "__main__":
    unittest.main()
