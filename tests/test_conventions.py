import copy
import inspect
import unittest

from termseats import houses, years
from termseats.errors import SeatError
from tests.things import some_cases, some_letters, things

INTERFACE = (
    (houses, "need_house", ("house",)), (houses, "need_stand", ("house", "stand")),
    (houses, "need_band", ("band",)), (houses, "house_round", ("house",)),
    (years, "year", ("house", "stand", "number", "choices")),
    (years, "run", ("house", "stand", "rows")), (years, "majorities", ("house", "stand")),
    (years, "due_seats", ("house", "number")))


def functions():
    return [(getattr(module, name), parameters) for module, name, parameters in INTERFACE]


def right_arguments(rng, house, stand):
    """A right value for each name of a parameter."""
    return {
        "house": house, "stand": stand, "band": (rng.choice((None, 0, 4)), rng.randint(1, 4)),
        "number": rng.randint(0, 10 ** 30), "choices": some_letters(rng, house[1]),
        "rows": [some_letters(rng, house[1]) for _ in range(rng.randint(0, 9))]}


def answer(function, arguments):
    """What the function returns, or the error that it raises with its fields."""
    try:
        return ("returned", function(*arguments))
    except SeatError as error:
        return ("raised", type(error), vars(error))


class Interface(unittest.TestCase):
    def test_each_function_is_defined_in_its_file(self):
        for module, name, _ in INTERFACE:
            function = getattr(module, name)
            self.assertTrue(inspect.isfunction(function))
            self.assertEqual((function.__module__, function.__name__), (module.__name__, name))
            self.assertFalse(inspect.isgeneratorfunction(function))

    def test_parameters(self):
        for function, names in functions():
            parameters = inspect.signature(function).parameters.values()
            self.assertEqual(tuple([one.name for one in parameters]), names)
            for one in parameters:
                self.assertEqual(one.kind, one.POSITIONAL_OR_KEYWORD)
                self.assertIs(one.default, one.empty)

    def test_arguments_by_position_and_by_name(self):
        for rng, house, stand in some_cases(40, 21):
            given = right_arguments(rng, house, stand)
            for function, names in functions():
                values = [given[name] for name in names]
                told = function(*values)
                for many in range(len(names)):
                    by_name = dict(list(zip(names, values))[many:])
                    self.assertEqual(function(*values[:many], **by_name), told)
                turned = dict(list(zip(names, values))[::-1])
                self.assertEqual(function(**turned), told)

    def test_a_wrong_number_or_name_of_arguments(self):
        for rng, house, stand in some_cases(1, 22):
            given = right_arguments(rng, house, stand)
            for function, names in functions():
                values = [given[name] for name in names]
                for arguments in (values[1:], values + [None]):
                    with self.assertRaises(TypeError):
                        function(*arguments)
                with self.assertRaises(TypeError):
                    function(*values, other=1)


class Unchanged(unittest.TestCase):
    def test_what_is_passed_stays_as_it_was(self):
        for rng, house, stand in some_cases(60, 23):
            given = right_arguments(rng, house, stand)
            before = copy.deepcopy(given)
            for function, names in functions():
                function(*[given[name] for name in names])
                self.assertEqual(given, before)
                for name, value in given.items():
                    self.assertIs(type(value), type(before[name]))

    def test_what_is_refused_stays_as_it_was(self):
        wrong = [["a", "b"], ["a", ["b"]], {"a": ["b"]}, {1, 2}, [None] * 401, ([1], 0), ([[]], 2)]
        before = copy.deepcopy(wrong)
        for function, names in functions():
            for thing in wrong:
                with self.assertRaises(SeatError):
                    function(*[thing for _ in names])
        house = ((((1, 0, ("ward", 0)),),), 4)
        for thing in wrong:
            with self.assertRaises(SeatError):
                years.run(house, ("a",), thing)
            with self.assertRaises(SeatError):
                houses.need_stand(house, thing)
        self.assertEqual(wrong, before)

    def test_iterators_are_not_used_up(self):
        for function, names in functions():
            for at in range(len(names)):
                iterator = iter(["a", "b"])
                arguments = [((((1, 0, ("ward", 0)),),), 1), ("a",), 0, "a"][:len(names)]
                arguments[at] = iterator
                with self.assertRaises(SeatError):
                    function(*arguments)
                self.assertEqual(list(iterator), ["a", "b"])


class Equal(unittest.TestCase):
    def test_equal_calls_return_equal_results(self):
        calls = []
        for rng, house, stand in some_cases(40, 24):
            given = right_arguments(rng, house, stand)
            for function, names in functions():
                calls.append((function, [given[name] for name in names]))
        first = [answer(function, values) for function, values in calls]
        # Other calls stand between, refused ones too, and the order is another one.
        for thing in things():
            for function, names in functions():
                answer(function, [thing for _ in names])
        turned = [answer(function, copy.deepcopy(values)) for function, values in calls[::-1]]
        self.assertEqual(turned[::-1], first)
        self.assertEqual([kind for kind, *_ in first], ["returned"] * len(first))

    def test_a_change_of_rows_behind_a_call_changes_no_result(self):
        house = ((((1, 0, ("ward", 0)),),), 1)
        rows = ["a", "b"]
        stands = years.run(house, ("a",), rows)
        rows[0] = "b"
        rows.append("a")
        self.assertEqual(stands, (("a",), ("b",)))
        self.assertEqual(years.run(house, ("a",), rows), (("b",), ("b",), ("a",)))


if __name__ == "__main__":
    unittest.main()
