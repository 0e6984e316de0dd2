import inspect
import operator
import unittest

from termseats import errors
from termseats.errors import (
    BadBand, BadChoices, BadHouse, BadNumber, BadPaper, BadPhases, BadSeats, BadSeen, BadStand,
    BadText, BadWards, BadWide, SeatError, TooGreat)
from tests.things import things

ONE_FIELD = (
    (BadHouse, "place"), (BadStand, "value"), (BadChoices, "place"), (BadBand, "part"),
    (BadNumber, "value"), (BadPaper, "word"), (BadSeats, "value"), (BadWards, "value"),
    (BadWide, "place"), (BadSeen, "place"), (BadPhases, "value"), (TooGreat, "most"))
REFUSALS = tuple([kind for kind, _ in ONE_FIELD if kind is not TooGreat]) + (BadText,)
ALL = (SeatError, TooGreat) + REFUSALS


def made(kind):
    return kind(0, 1) if kind is BadText else kind("form")


class Families(unittest.TestCase):
    def test_the_file_defines_just_these_classes(self):
        found = {name for name, thing in vars(errors).items() if inspect.isclass(thing)}
        self.assertEqual(found, {kind.__name__ for kind in ALL})
        for kind in ALL:
            self.assertEqual(kind.__module__, "termseats.errors")

    def test_each_stands_directly_under_the_class_that_is_told(self):
        self.assertEqual(SeatError.__bases__, (ValueError,))
        self.assertEqual(TooGreat.__bases__, (OverflowError,))
        for kind in REFUSALS:
            self.assertEqual(kind.__bases__, (SeatError,), kind)

    def test_none_is_one_of_the_others(self):
        for kind in REFUSALS + (TooGreat,):
            for other in REFUSALS + (TooGreat,):
                self.assertEqual(issubclass(kind, other), kind is other, (kind, other))
        self.assertFalse(issubclass(TooGreat, SeatError))
        self.assertFalse(issubclass(TooGreat, ValueError))
        for kind in REFUSALS:
            self.assertFalse(issubclass(kind, OverflowError))

    def test_each_is_caught_by_the_class_that_is_told(self):
        for kind in REFUSALS:
            for family in (kind, SeatError, ValueError):
                with self.assertRaises(family):
                    raise made(kind)
        for family in (TooGreat, OverflowError, ArithmeticError):
            with self.assertRaises(family):
                raise TooGreat(20000)

    def test_seat_error_is_made_by_itself_with_one_text(self):
        error = SeatError("no such seat")
        self.assertEqual(str(error), "no such seat")
        self.assertEqual(error.args, ("no such seat",))


class Fields(unittest.TestCase):
    def test_one_field_keeps_the_value_itself_by_position_and_by_name(self):
        for kind, field in ONE_FIELD:
            for thing in things():
                self.assertIs(getattr(kind(thing), field), thing)
                self.assertIs(getattr(kind(**{field: thing}), field), thing)

    def test_the_fields_of_bad_text(self):
        for thing in things():
            other = object()
            by_position = BadText(thing, other)
            by_name = BadText(word=other, line=thing)
            mixed = BadText(thing, word=other)
            for error in (by_position, by_name, mixed):
                self.assertIs(error.line, thing)
                self.assertIs(error.word, other)

    def test_fields_are_just_those_that_are_named(self):
        for kind, field in ONE_FIELD:
            self.assertEqual(list(vars(kind(7))), [field])
            self.assertEqual(list(inspect.signature(kind).parameters), [field])
        self.assertEqual(sorted(vars(BadText(7, 8))), ["line", "word"])
        self.assertEqual(list(inspect.signature(BadText).parameters), ["line", "word"])

    def test_each_has_to_be_made_with_all_fields_and_no_more(self):
        for kind, field in ONE_FIELD:
            for arguments in ((), (1, 2)):
                with self.assertRaises(TypeError):
                    kind(*arguments)
            with self.assertRaises(TypeError):
                kind(**{field + "s": 1})
        for arguments in ((), (1,), (1, 2, 3)):
            with self.assertRaises(TypeError):
                BadText(*arguments)

    def test_each_class_defines_its_own_init(self):
        for kind in REFUSALS + (TooGreat,):
            self.assertIn("__init__", vars(kind))

    def test_fields_of_one_object_are_not_those_of_another_one(self):
        first, second = BadStand(("a",)), BadStand(("b",))
        self.assertEqual((first.value, second.value), (("a",), ("b",)))


class Operators(unittest.TestCase):
    PLAIN = (None, True, 0, 1, -1, 10 ** 999, "", "a", b"a", (), ("a",), [], [1], {}, {1: 2}, object())
    ARITHMETIC = (
        operator.add, operator.sub, operator.mul, operator.floordiv, operator.mod, operator.pow,
        operator.and_, operator.or_, operator.xor, operator.lshift, operator.rshift,
        operator.truediv, operator.matmul)
    ORDERS = (operator.lt, operator.le, operator.gt, operator.ge)

    def test_operators_that_are_not_described_raise_type_error(self):
        for kind in ALL:
            error = made(kind)
            for sign in self.ARITHMETIC + self.ORDERS:
                for thing in self.PLAIN + (made(kind), error):
                    with self.assertRaises(TypeError):
                        sign(error, thing)
                    with self.assertRaises(TypeError):
                        sign(thing, error)
            for sign in (operator.neg, operator.pos, operator.invert, abs, len, iter):
                with self.assertRaises(TypeError):
                    sign(error)
            with self.assertRaises(TypeError):
                error[0]
            with self.assertRaises(TypeError):
                0 in error

    def test_equal_and_unlike_do_not_raise(self):
        for kind in ALL:
            error = made(kind)
            for thing in self.PLAIN:
                self.assertIs(error == thing, False)
                self.assertIs(thing == error, False)
                self.assertIs(error != thing, True)
                self.assertIs(thing != error, True)
            for other in ALL:
                if other is not kind:
                    self.assertIs(error == made(other), False)
                    self.assertIs(error != made(other), True)


if __name__ == "__main__":
    unittest.main()
