"""Of several wrong arguments the first one is refused, whatever stands in the place of each."""

import itertools
import unittest

from termseats.errors import (
    BadBand, BadChoices, BadHouse, BadNumber, BadPhases, BadSeen, BadStand, BadWide)
from tests.things import Hostile, things

BANDS_AMONG_THINGS = [(None, 1), (1, 1)]
# The errors whose field is the value itself.
OF_VALUES = (BadStand, BadNumber, BadPhases)


def is_just(thing, value):
    """Whether a thing is just a value, of the same kind throughout."""
    return type(thing) is type(value) and repr(thing) == repr(value)


class Refusing(unittest.TestCase):
    def assert_refused(self, kind, field, value, function, *arguments):
        """A call raises an error of just this kind, with just this value in its field."""
        with self.assertRaises(kind) as caught:
            function(*arguments)
        self.assertIs(type(caught.exception), kind)
        told = getattr(caught.exception, field)
        self.assertEqual((type(told), told), (type(value), value))

    def assert_first(self, function, right, errors):
        """errors are those due for wrong values in the places of the arguments."""
        function(*right)
        for wrong in itertools.product((False, True), repeat=len(right)):
            if any(wrong):
                given = [Hostile() if bad else value for bad, value in zip(wrong, right)]
                with self.assertRaises(errors[wrong.index(True)]) as caught:
                    function(*given)
                self.assertIs(type(caught.exception), errors[wrong.index(True)])

    def assert_things(self, function, right, errors, allowed=()):
        """Things of every kind in the place of each argument; allowed are those of them that are right somewhere."""
        for place, thing in itertools.product(range(len(right)), things()):
            if any(is_just(thing, value) for value in allowed) or is_just(thing, right[place]):
                continue
            for behind in (list(right[place + 1:]), [Hostile()] * (len(right) - place - 1)):
                with self.assertRaises(errors[place]) as caught:
                    function(*right[:place], thing, *behind)
                self.assertIs(type(caught.exception), errors[place])
                if errors[place] in OF_VALUES:
                    self.assertIs(caught.exception.value, thing)
