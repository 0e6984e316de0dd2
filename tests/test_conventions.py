import copy
import inspect
import random
import unittest

from termseats import (
    counts, holds, houses, likes, memory, orders, outlive, phases, states, takes, texts, toldback, wides, years)
from termseats.errors import SeatError
from tests.things import small_house, some_letters, some_stand, things

# The module, the name, the parameters, and those that are passed by name alone.
INTERFACE = (
    (houses, "need_house", ("house",), ()), (houses, "need_stand", ("house", "stand"), ()),
    (houses, "need_band", ("band",), ()), (houses, "house_round", ("house",), ()),
    (years, "year", ("house", "stand", "number", "choices"), ()),
    (years, "run", ("house", "stand", "rows"), ()), (years, "majorities", ("house", "stand"), ()),
    (years, "due_seats", ("house", "number"), ()),
    (states, "states", ("house", "stand", "band"), ()),
    (states, "nexts", ("house", "stand", "band", "state"), ()),
    (counts, "bounds", ("house", "stand", "band", "body"), ()),
    (counts, "rows_to", ("house", "stand", "band", "body", "many"), ()),
    (counts, "seats_paper", ("house", "stand", "band", "body"), ("least",)),
    (counts, "check_seats", ("house", "stand", "band", "body", "paper"), ("least",)),
    (outlive, "outlived", ("house", "stand", "band", "body"), ()),
    (outlive, "outlive_paper", ("house", "stand", "band", "body"), ()),
    (outlive, "check_outlive", ("house", "stand", "band", "body", "paper"), ()),
    (orders, "is_above", ("house", "stand", "other"), ()), (orders, "are_above", ("house", "rows", "others"), ()),
    (orders, "lower", ("house", "stand", "other"), ()), (orders, "upper", ("house", "stand", "other"), ()),
    (orders, "ends", ("house",), ()), (orders, "mirrored", ("house",), ()),
    (orders, "mirrored_stand", ("house", "stand"), ()),
    (memory, "forgets_in", ("house", "band"), ()), (memory, "memory_paper", ("house", "band"), ()),
    (memory, "check_memory", ("house", "band", "paper"), ()),
    (holds, "stand_with", ("house", "seats"), ()), (holds, "is_hold", ("house", "seats", "body"), ()),
    (holds, "least_holds", ("house", "body"), ()),
    (holds, "surely_from", ("house", "stand", "wards", "body"), ()),
    (holds, "least_helps", ("house", "stand", "body"), ()),
    (takes, "cheapest", ("house", "stand", "last", "band", "body"), ()),
    (takes, "take_paper", ("house", "stand", "last", "band", "body"), ()),
    (takes, "check_take", ("house", "stand", "last", "band", "body", "paper"), ()),
    (likes, "are_alike", ("house", "stand", "other", "far", "band"), ()),
    (likes, "parting_rows", ("house", "stand", "other", "far", "band"), ()),
    (likes, "hangs_on", ("house", "body"), ()), (likes, "core", ("house", "body"), ()),
    (likes, "core_stand", ("house", "stand", "body"), ()),
    (wides, "need_wide", ("wide",), ()), (wides, "sizes", ("wide",), ()), (wides, "pattern", ("wide",), ()),
    (wides, "wide_run", ("wide", "stand", "rows"), ()), (wides, "wide_majorities", ("wide", "stand"), ()),
    (wides, "like_sizes", ("wide", "greatest"), ()), (wides, "go_alike", ("wide", "other"), ()),
    (toldback, "firm", ("house", "stand", "band", "seen"), ()),
    (toldback, "first_false", ("house", "stand", "band", "seen"), ()),
    (toldback, "many_rows", ("house", "stand", "band", "seen"), ()),
    (toldback, "least_row", ("house", "stand", "band", "seen"), ()),
    (toldback, "begins", ("house", "band", "seen"), ()),
    (phases, "phases_of", ("house",), ()), (phases, "with_phases", ("house", "phases"), ()),
    (phases, "loads", ("house",), ()), (phases, "busiest", ("house",), ()), (phases, "spread", ("house",), ()),
    (texts, "house_text", ("house",), ()), (texts, "stand_text", ("house", "stand"), ()),
    (texts, "rows_text", ("house", "rows"), ()), (texts, "read_house", ("text",), ()),
    (texts, "read_stand", ("house", "text"), ()), (texts, "read_rows", ("house", "text"), ()))


def functions():
    """The functions of the interface, each with its parameters, and with those by name alone."""
    return [(getattr(module, name), parameters, named) for module, name, parameters, named in INTERFACE]


def some_calls(many, seed):
    """So many times for each function: the function, its arguments, and those by name alone."""
    rng = random.Random(seed)
    for _ in range(many):
        bodies, wards = rng.randint(1, 3), rng.randint(0, 4)
        house = small_house(rng, bodies, wards, rng.randint(bodies, 4))
        given = right_arguments(rng, house, some_stand(rng, house))
        for function, names, named in functions():
            values = dict(given, paper=right_paper(function, given), **of_one_module(rng, function, given))
            yield function, {name: values[name] for name in names}, {name: values[name] for name in named}


def right_arguments(rng, house, stand):
    """A right value for each name of a parameter, but for papers and for what of_one_module gives."""
    rows = [some_letters(rng, house[1]) for _ in range(rng.randint(0, 9))]
    return {
        "house": house, "stand": stand, "other": some_stand(rng, house), "last": some_letters(rng, house[1]),
        "others": [some_letters(rng, house[1]) for _ in rows], "seats": ((0, 0),), "wards": tuple(range(house[1])),
        "band": (rng.choice((None, 0, 4)), rng.randint(1, 2)),
        "number": rng.randint(0, 10 ** 30), "choices": some_letters(rng, house[1]),
        "rows": rows, "body": rng.randrange(len(house[0])), "many": rng.randint(0, 9), "state": (stand, 0, "", ()),
        "least": rng.choice((False, True)), "greatest": rng.randint(1, 5), "far": some_stand(rng, house),
        "seen": ["".join([rng.choice("ab=???") for _ in house[0]]) for _ in range(rng.randint(0, 3))],
        "phases": tuple([tuple([rng.randrange(seat[0]) for seat in body]) for body in house[0]])}


def of_one_module(rng, function, given):
    """Right values where a name means something else in the module of a function than in the others."""
    house = given["house"]
    if function.__module__ == "termseats.likes":
        return {"other": house}
    if function.__module__ == "termseats.wides":
        wide = lambda: (tuple([
            tuple([seat + (rng.randint(1, 10 ** 30),) for seat in body[:4]]) for body in house[0]]), house[1])
        return {"wide": wide(), "other": wide(), "stand": tuple([letters[:4] for letters in given["stand"]])}
    words = {
        "read_house": lambda: texts.house_text(house), "read_stand": lambda: texts.stand_text(house, given["stand"]),
        "read_rows": lambda: texts.rows_text(house, given["rows"])}
    return {"text": words[function.__name__]()} if function.__name__ in words else {}


def right_paper(function, given):
    question = [given[name] for name in ("house", "stand", "band", "body")]
    if function is counts.check_seats:
        return counts.seats_paper(*question, least=given["least"])
    if function is outlive.check_outlive:
        return outlive.outlive_paper(*question)
    if function is memory.check_memory:
        return memory.memory_paper(given["house"], given["band"])
    if function is takes.check_take:
        return takes.take_paper(*question[:2], given["last"], *question[2:])
    return None


def answer(function, arguments, named):
    """What the function returns, or the error that it raises with its fields."""
    try:
        return ("returned", function(*arguments, **named))
    except SeatError as error:
        return ("raised", type(error), vars(error))


class Interface(unittest.TestCase):
    def test_each_function_is_defined_in_its_file(self):
        for module, name, _, _ in INTERFACE:
            function = getattr(module, name)
            self.assertTrue(inspect.isfunction(function))
            self.assertEqual((function.__module__, function.__name__), (module.__name__, name))
            self.assertFalse(inspect.isgeneratorfunction(function))

    def test_parameters(self):
        for function, names, named in functions():
            parameters = inspect.signature(function).parameters.values()
            self.assertEqual(tuple([one.name for one in parameters]), names + named)
            for one in parameters:
                if one.name in names:
                    self.assertEqual((one.kind, one.default), (one.POSITIONAL_OR_KEYWORD, one.empty))
                else:
                    self.assertEqual((one.kind, one.default), (one.KEYWORD_ONLY, False))

    def test_arguments_by_position_and_by_name(self):
        for function, given, named in some_calls(25, 21):
            names, values = list(given), list(given.values())
            told = function(*values, **named)
            for many in range(len(names)):
                by_name = dict(list(zip(names, values))[many:])
                self.assertEqual(function(*values[:many], **by_name, **named), told)
            turned = dict(list({**given, **named}.items())[::-1])
            self.assertEqual(function(**turned), told)

    def test_least_by_name_alone(self):
        for function, given, named in some_calls(3, 27):
            if named:
                with self.assertRaises(TypeError):
                    function(*given.values(), *named.values())
                if not named["least"]:
                    self.assertEqual(function(*given.values()), function(*given.values(), least=False))

    def test_a_wrong_number_or_name_of_arguments(self):
        for function, given, _ in some_calls(1, 22):
            values = list(given.values())
            for arguments in (values[1:], values + [None]):
                with self.assertRaises(TypeError):
                    function(*arguments)
            with self.assertRaises(TypeError):
                function(*values, other=1)


class Unchanged(unittest.TestCase):
    def test_what_is_passed_stays_as_it_was(self):
        for function, given, named in some_calls(40, 23):
            before = copy.deepcopy(given)
            function(**given, **named)
            self.assertEqual(given, before)
            for name, value in given.items():
                self.assertIs(type(value), type(before[name]))

    def test_what_is_refused_stays_as_it_was(self):
        wrong = [["a", "b"], ["a", ["b"]], {"a": ["b"]}, {1, 2}, [None] * 401, ([1], 0), ([[]], 2)]
        before = copy.deepcopy(wrong)
        for function, names, _ in functions():
            for thing in wrong:
                with self.assertRaises(SeatError):
                    function(*[thing for _ in names])
        house = ((((1, 0, ("ward", 0)),),), 4)
        for thing in wrong:
            with self.assertRaises(SeatError):
                years.run(house, ("a",), thing)
            with self.assertRaises(SeatError):
                houses.need_stand(house, thing)
        self.assertEqual(wrong, before)

    def test_iterators_are_not_used_up(self):
        house = ((((1, 0, ("ward", 0)),),), 1)
        right = {"house": house, "stand": ("a",), "number": 0, "choices": "a", "rows": (),
                 "band": (None, 1), "body": 0, "many": 0, "state": None, "paper": None, "other": ("a",), "others": (),
                 "last": "a", "seats": (), "wards": (), "wide": ((((1, 0, ("ward", 0), 5),),), 1), "greatest": 1,
                 "far": ("a",), "seen": (), "phases": ((0,),), "text": "a"}
        for function, names, _ in functions():
            for name in names:
                iterator = iter(["a", "b"])
                given = {one: right[one] for one in names}
                if function in (likes.are_alike, likes.parting_rows):
                    given["other"] = house
                given[name] = iterator
                kind, told, *_ = answer(function, list(given.values()), {})
                self.assertEqual((kind, told) if name == "state" else kind,
                                 ("returned", None) if name == "state" else "raised")
                self.assertEqual(list(iterator), ["a", "b"])


class Equal(unittest.TestCase):
    def test_equal_calls_return_equal_results(self):
        calls = [(function, list(given.values()), named) for function, given, named in some_calls(25, 24)]
        first = [answer(*call) for call in calls]
        # Other calls stand between, refused ones too, and the order is another one.
        for thing in things():
            for function, names, _ in functions():
                answer(function, [thing for _ in names], {})
        turned = [answer(*copy.deepcopy(call)) for call in calls[::-1]]
        self.assertEqual(turned[::-1], first)
        self.assertEqual([kind for kind, *_ in first], ["returned"] * len(first))

    def test_a_change_of_rows_behind_a_call_changes_no_result(self):
        house = ((((1, 0, ("ward", 0)),),), 1)
        rows = ["a", "b"]
        stands = years.run(house, ("a",), rows)
        rows[0] = "b"
        rows.append("a")
        self.assertEqual(stands, (("a",), ("b",)))
        self.assertEqual(years.run(house, ("a",), rows), (("b",), ("b",), ("a",)))


if __name__ == "__main__":
    unittest.main()
