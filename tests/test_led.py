import inspect
import itertools
import operator
import random
import unittest

from termseats import led as led_module
from termseats.errors import BadChoices, BadHouse, BadNumber, BadStand, SeatError, TooGreat
from termseats.led import Led, under
from tests import plain
from tests.refusing import Refusing, is_just
from tests.things import (
    CHARACTERS, HUGE, Agreeing, Hostile, all_ways, small_house, some_cases, some_letters, some_stand, things)

KEPT = (1, 0, ("kept",))
ONE = ((((1, 0, ("ward", 0)),),), 1)
HOUSE = ((((1, 0, ("ward", 0)), (2, 1, ("ward", 1)), (2, 0, ("rest", 0, "kept"))), ((1, 0, ("body", 0, "a")),)), 2)
STAND = ("abb", "b")


class Stop(Exception):
    pass


class Record:
    """A plain record of a led house: all is worked out anew from its deeds."""

    def __init__(self, house, stand, deeds=(), undone=()):
        self.begun = (house, stand)
        self.deeds, self.undone = list(deeds), list(undone)

    def now(self):
        """The house, the stand and the votes behind all deeds."""
        (house, stand), votes = self.begun, []
        for deed in self.deeds:
            if deed[0] == "vote":
                stand = plain.stand_by_the_document(house, stand, len(votes), deed[1])
                votes.append(deed[1])
            else:
                house = amended(house, *deed[1:])
        return house, stand, tuple(votes)

    def do(self, deed):
        self.deeds.append(deed)
        self.undone = []

    def undo(self):
        if not self.deeds:
            return False
        self.undone.append(self.deeds.pop())
        return True

    def redo(self):
        if not self.undone:
            return False
        self.deeds.append(self.undone.pop())
        return True

    def copy(self):
        return Record(*self.begun, self.deeds, self.undone)


def amended(house, body, place, seat):
    bodies = [list(row) for row in house[0]]
    bodies[body][place] = seat
    return (tuple([tuple(row) for row in bodies]), house[1])


def some_seat(rng, house, terms=(1, 2, 4)):
    term = rng.choice(terms)
    return (term, rng.randrange(term), rng.choice(all_ways(len(house[0]), house[1])))


class Leading(Refusing):
    def assert_as(self, led, record):
        house, stand, votes = record.now()
        self.assertEqual(led.house, house)
        self.assertEqual(led.stand, stand)
        self.assertEqual(led.number, len(votes))
        self.assertEqual(led.votes(), votes)
        self.assertIs(type(led.votes()), tuple)
        self.assertEqual(len(led), len(record.deeds))

    def assert_undone_as(self, led, record):
        """What can be taken back and done again is that of a record; both are gone through on copies."""
        self.assert_as(led, record)
        twin, other = led.copy(), record.copy()
        while other.redo():
            self.assertIs(twin.redo(), True)
            self.assert_as(twin, other)
        self.assertIs(twin.redo(), False)
        while other.undo():
            self.assertIs(twin.undo(), True)
            self.assert_as(twin, other)
        self.assertIs(twin.undo(), False)
        self.assert_as(led, record)

    def do_something(self, rng, led, record):
        """One right deed, or one that is refused, or something taken back or done again."""
        house, _, votes = record.now()
        what = rng.choice(("vote", "vote", "vote", "amend", "amend", "undo", "undo", "redo", "redo", "wrong"))
        if what == "vote":
            choices = some_letters(rng, house[1])
            told = led.vote(choices)
            record.do(("vote", choices))
            self.assertEqual(told, record.now()[1])
        elif what == "amend":
            body = rng.randrange(len(house[0]))
            place, seat = rng.randrange(len(house[0][body])), some_seat(rng, house)
            try:
                self.assertIsNone(led.amend(body, place, seat))
                record.do(("amend", body, place, seat))
            except BadHouse as error:
                self.assertEqual(error.place, "round")
        elif what == "wrong":
            self.be_refused(rng, led)
        else:
            self.assertIs(getattr(led, what)(), getattr(record, what)())

    def be_refused(self, rng, led):
        deed = rng.choice((
            lambda: led.vote("a" * (led.house[1] + 1)), lambda: led.vote(None), lambda: led.amend(3, 0, KEPT),
            lambda: led.amend(0, 9, KEPT), lambda: led.amend(0, 0, (1, 1, ("kept",))), lambda: led.amend(0, 0, None)))
        with self.assertRaises(SeatError):
            deed()


class Deeds(Leading):
    def test_against_a_plain_record(self):
        rng = random.Random(141)
        for _ in range(60):
            house = small_house(rng, rng.randint(1, 3), rng.randint(0, 4), 5)
            stand = some_stand(rng, house)
            led, record = Led(house, stand), Record(house, stand)
            self.assert_undone_as(led, record)
            for _ in range(rng.randint(1, 40)):
                self.do_something(rng, led, record)
                self.assert_as(led, record)
            self.assert_undone_as(led, record)

    def test_by_hand(self):
        led = Led(HOUSE, STAND)
        self.assertEqual((led.house, led.stand, led.number, led.votes(), len(led)), (HOUSE, STAND, 0, (), 0))
        self.assertEqual(led.vote("aa"), ("abb", "b"))
        self.assertEqual((led.stand, led.number, led.votes(), len(led)), (("abb", "b"), 1, ("aa",), 1))
        self.assertIsNone(led.amend(1, 0, (2, 0, ("ward", 1))))
        self.assertEqual(led.house, (HOUSE[0][:1] + (((2, 0, ("ward", 1)),),), 2))
        self.assertEqual((led.stand, led.number, led.votes(), len(led)), (("abb", "b"), 1, ("aa",), 2))
        # The seat does not come up in the year 1 any more.
        self.assertEqual(led.vote("ba"), ("bab", "b"))
        self.assertEqual(led.vote("ba"), ("baa", "a"))
        self.assertEqual((led.number, led.votes(), len(led)), (3, ("aa", "ba", "ba"), 4))
        for many in (3, 2, 1, 0):
            self.assertIs(led.undo(), True)
            self.assertEqual(len(led), many)
        self.assertIs(led.undo(), False)
        self.assertEqual((led.house, led.stand, led.number), (HOUSE, STAND, 0))
        for many in (1, 2, 3, 4):
            self.assertIs(led.redo(), True)
            self.assertEqual(len(led), many)
        self.assertIs(led.redo(), False)
        self.assertEqual((led.stand, led.votes()), (("baa", "a"), ("aa", "ba", "ba")))

    def test_a_seat_comes_up_from_then_on_as_the_new_term_and_phase_tell(self):
        led = Led(ONE, ("b",))
        for _ in range(4):
            led.vote("b")
        led.amend(0, 0, (3, 2, ("ward", 0)))
        # The number of the year is 4: it comes up in the years 5, 8, ..
        self.assertEqual([led.vote("a"), led.vote("a"), led.vote("b"), led.vote("b"), led.vote("b")],
                         [("b",), ("a",), ("a",), ("a",), ("b",)])
        led.amend(0, 0, (2, 1, ("ward", 0)))
        self.assertEqual([led.vote("a"), led.vote("b")], [("a",), ("a",)])
        # The wards and the bodies stay as they are, so the seat may be filled by each of them.
        led.amend(0, 0, (1, 0, ("rest", 0, "b")))
        self.assertEqual(led.vote("a"), ("b",))

    def test_what_was_taken_back_cannot_be_done_again_behind_another_deed(self):
        for deed in (lambda led: led.vote("aa"), lambda led: led.amend(0, 0, KEPT), lambda led: led.amend(0, 1, HOUSE[0][0][1])):
            led = Led(HOUSE, STAND)
            led.vote("aa")
            led.amend(1, 0, KEPT)
            led.vote("bb")
            led.undo()
            led.undo()
            deed(led)
            before = (led.house, led.stand, led.votes(), len(led))
            self.assertIs(led.redo(), False)
            self.assertEqual((led.house, led.stand, led.votes(), len(led)), before)
            self.assertEqual(len(led), 2)

    def test_what_is_refused_changes_nothing(self):
        rng = random.Random(142)
        led, record = Led(HOUSE, STAND), Record(HOUSE, STAND)
        for choices in ("ab", "ba", "bb"):
            led.vote(choices)
            record.do(("vote", choices))
        led.undo()
        record.undo()
        for _ in range(40):
            self.be_refused(rng, led)
            self.assert_undone_as(led, record)
        self.assertIs(led.redo(), True)
        self.assertEqual(led.votes(), ("ab", "ba", "bb"))

    def test_an_amendment_by_the_same_seat_is_a_deed(self):
        led = Led(ONE, ("a",))
        led.amend(0, 0, ONE[0][0][0])
        self.assertEqual((len(led), led.house, led.votes()), (1, ONE, ()))
        self.assertNotEqual(led, Led(ONE, ("a",)))

    def test_houses_of_all_sorts(self):
        for rng, house, stand in some_cases(30, 143):
            led, record = Led(house, stand), Record(house, stand)
            for _ in range(25):
                choices = some_letters(rng, house[1])
                record.do(("vote", choices))
                self.assertEqual(led.vote(choices), record.now()[1])
            self.assert_as(led, record)


class Refused(Leading):
    def test_houses_and_stands(self):
        self.assert_first(Led, (ONE, ("a",)), (BadHouse, BadStand))
        self.assert_things(Led, (ONE, ("a",)), (BadHouse, BadStand))
        self.assert_refused(BadHouse, "place", (0, 0), Led, ((((1, 1, ("kept",)),),), 1), None)
        self.assert_refused(BadStand, "value", ("aa",), Led, ONE, ("aa",))

    def test_votes(self):
        for wards in range(5):
            house = (((KEPT,),), wards)
            led = Led(house, ("a",))
            for thing in things():
                if type(thing) is str and len(thing) == wards and set(thing) <= set("ab"):
                    self.assertEqual(led.vote(thing), ("a",))
                else:
                    self.assert_refused(BadChoices, "place", 0, led.vote, thing)
            for sign in CHARACTERS:
                if wards and sign not in "ab":
                    self.assert_refused(BadChoices, "place", 0, led.vote, "a" * (wards - 1) + sign)
            self.assertEqual(len(led), len(led.votes()))

    def test_amendments(self):
        led = Led(HOUSE, STAND)
        for thing in things():
            if not (type(thing) is int and 0 <= thing < 2):
                with self.assertRaises(BadNumber) as caught:
                    led.amend(thing, Hostile(), Hostile())
                self.assertIs(caught.exception.value, thing)
            for body, seats in enumerate((3, 1)):
                if not (type(thing) is int and 0 <= thing < seats):
                    with self.assertRaises(BadNumber) as caught:
                        led.amend(body, thing, Hostile())
                    self.assertIs(caught.exception.value, thing)
                    self.assertIs(type(caught.exception), BadNumber)
            for body, place in ((0, 0), (0, 2), (1, 0)):
                self.assert_refused(BadHouse, "place", (body, place), led.amend, body, place, thing)
        self.assertEqual((led.house, len(led)), (HOUSE, 0))

    def test_the_house_behind_an_amendment(self):
        led = Led(HOUSE, STAND)
        for seat in ((0, 0, ("kept",)), (7, 0, ("kept",)), (2, 2, ("kept",)), (2, -1, ("kept",)), (2, 0, ("ward", 2)),
                     (1, 0, ("body", 2, "a")), (1, 0, ("rest", 0, "c")), (True, 0, ("kept",)), [1, 0, ("kept",)],
                     (1, 0, ("kept",), 1), (1, False, ("kept",)), (HUGE, 0, ("kept",))):
            self.assert_refused(BadHouse, "place", (0, 1), led.amend, 0, 1, seat)
        led.amend(0, 0, (4, 0, ("kept",)))
        # The round would be 20.
        self.assert_refused(BadHouse, "place", "round", led.amend, 0, 1, (5, 0, ("kept",)))
        led.amend(0, 1, (3, 0, ("kept",)))
        # The seats that make the round 12 are replaced, so it may become 10.
        led.amend(0, 0, (1, 0, ("kept",)))
        led.amend(0, 1, (5, 0, ("kept",)))
        led.amend(0, 2, (2, 0, ("kept",)))
        self.assertEqual(len(led), 5)

    def test_the_order(self):
        led = Led(HOUSE, STAND)
        for wrong in itertools.product((False, True), repeat=3):
            if any(wrong):
                given = [Hostile() if bad else right for bad, right in zip(wrong, (0, 0, KEPT))]
                with self.assertRaises((BadNumber, BadNumber, BadHouse)[wrong.index(True)]):
                    led.amend(*given)
        self.assertEqual(len(led), 0)


class FourHundred(Leading):
    def full(self, deeds=400):
        led = Led(ONE, ("a",))
        for at in range(deeds):
            led.vote("ab"[at % 2]) if at % 3 else led.amend(0, 0, (2, at % 2, ("ward", 0)))
        return led

    def test_four_hundred_deeds_are_let(self):
        led = self.full()
        self.assertEqual(len(led), 400)
        self.assertEqual(led.number, 266)
        twin = led.copy()
        for one in (led, twin):
            before = (one.house, one.stand, one.number, one.votes())
            for deed in (lambda: one.vote("a"), lambda: one.amend(0, 0, KEPT)):
                self.assert_refused(TooGreat, "most", 400, deed)
            self.assertEqual((one.house, one.stand, one.number, one.votes(), len(one)), before + (400,))

    def test_behind_the_other_errors(self):
        led = self.full()
        self.assert_refused(BadChoices, "place", 0, led.vote, "aa")
        self.assert_refused(BadNumber, "value", 1, led.amend, 1, 0, KEPT)
        self.assert_refused(BadNumber, "value", 1, led.amend, 0, 1, KEPT)
        self.assert_refused(BadHouse, "place", (0, 0), led.amend, 0, 0, None)

    def test_where_some_were_taken_back(self):
        led = self.full()
        for _ in range(3):
            led.undo()
        for _ in range(2):
            led.redo()
        self.assertEqual(len(led), 399)
        self.assertEqual(led.vote("b")[0] in "ab", True)
        self.assert_refused(TooGreat, "most", 400, led.vote, "b")
        self.assertIs(led.redo(), False)
        # More than four hundred were done, but not more at once.
        for _ in range(450):
            led.undo()
            led.vote("a")
        self.assertEqual(len(led), 400)
        led.undo()
        self.assertIs(led.redo(), True)
        self.assert_refused(TooGreat, "most", 400, led.amend, 0, 0, KEPT)

    def test_what_can_be_done_again_stays(self):
        # A deed that is too much cannot come with one to be done again, so only the right ones are gone through.
        led = self.full()
        for _ in range(400):
            self.assertIs(led.undo(), True)
        self.assertIs(led.undo(), False)
        for _ in range(400):
            self.assertIs(led.redo(), True)
        self.assertIs(led.redo(), False)
        self.assertEqual(led, self.full())

    def test_in_a_trial(self):
        led = self.full(399)
        with led.trial() as one:
            one.vote("a")
            self.assert_refused(TooGreat, "most", 400, one.vote, "a")
        self.assertEqual(len(led), 399)
        led.vote("a")


class Copies(Leading):
    def test_each_goes_on_by_itself(self):
        rng = random.Random(144)
        for _ in range(30):
            house = small_house(rng, rng.randint(1, 3), rng.randint(0, 2), 4)
            stand = some_stand(rng, house)
            pairs = [(Led(house, stand), Record(house, stand))]
            for _ in range(40):
                led, record = rng.choice(pairs)
                if rng.random() < 0.1:
                    twin = led.copy()
                    self.assertIs(type(twin), Led)
                    self.assertIsNot(twin, led)
                    self.assertEqual(twin, led)
                    pairs.append((twin, record.copy()))
                else:
                    self.do_something(rng, led, record)
                for one, other in pairs:
                    self.assert_as(one, other)
            for one, other in pairs:
                self.assert_undone_as(one, other)

    def test_what_can_be_taken_back_and_done_again_goes_with_it(self):
        led = Led(ONE, ("b",))
        for choices in "aba":
            led.vote(choices)
        led.undo()
        twin = led.copy()
        led.vote("b")
        self.assertIs(led.redo(), False)
        self.assertIs(twin.redo(), True)
        self.assertEqual((led.votes(), twin.votes()), (("a", "b", "b"), ("a", "b", "a")))
        self.assertEqual([twin.undo() for _ in range(4)], [True, True, True, False])
        self.assertEqual(led.votes(), ("a", "b", "b"))


class Trials(Leading):
    def test_behind_it_all_is_as_it_was(self):
        rng = random.Random(145)
        for _ in range(60):
            house = small_house(rng, rng.randint(1, 3), rng.randint(0, 2), 4)
            stand = some_stand(rng, house)
            led, record = Led(house, stand), Record(house, stand)
            for _ in range(rng.randint(0, 12)):
                self.do_something(rng, led, record)
            before = record.copy()
            with led.trial() as one:
                self.assertIs(one, led)
                for _ in range(rng.randint(0, 12)):
                    self.do_something(rng, led, record)
                    self.assert_as(led, record)
                self.assert_undone_as(led, record)
            self.assert_undone_as(led, before)

    def test_however_the_block_ends(self):
        def by_error(led):
            with led.trial():
                led.vote("b")
                raise Stop

        def by_refusal(led):
            with led.trial() as one:
                one.vote("b")
                one.vote("c")

        def by_return(led):
            with led.trial():
                led.undo()
                led.amend(0, 0, KEPT)
                return 5

        def by_break(led):
            for _ in range(2):
                with led.trial():
                    while led.undo():
                        pass
                    break

        for way, kind in ((by_error, Stop), (by_refusal, BadChoices), (by_return, None), (by_break, None)):
            led, record = Led(ONE, ("a",)), Record(ONE, ("a",))
            for choices in "aabb":
                led.vote(choices)
                record.do(("vote", choices))
            led.undo()
            record.undo()
            if kind is None:
                self.assertEqual(way(led), 5 if way is by_return else None)
            else:
                with self.assertRaises(kind):
                    way(led)
            self.assert_undone_as(led, record)

    def test_trials_within_trials(self):
        rng = random.Random(146)

        def go(led, record, depth):
            for _ in range(rng.randint(0, 4)):
                self.do_something(rng, led, record)
            if depth:
                for _ in range(2):
                    before = record.copy()
                    fails = rng.random() < 0.4
                    try:
                        with led.trial() as one:
                            self.assertIs(one, led)
                            go(led, record, depth - 1)
                            if fails:
                                raise Stop
                    except Stop:
                        self.assertTrue(fails)
                    record.deeds, record.undone = before.deeds, before.undone
                    self.assert_as(led, record)
                    if rng.random() < 0.5:
                        self.do_something(rng, led, record)
            self.assert_undone_as(led, record)

        for _ in range(12):
            house = small_house(rng, rng.randint(1, 2), 2, 3)
            stand = some_stand(rng, house)
            go(Led(house, stand), Record(house, stand), 3)

    def test_it_begins_with_the_block(self):
        led = Led(ONE, ("a",))
        manager = led.trial()
        led.vote("b")
        with manager as one:
            one.vote("a")
        self.assertEqual(led.votes(), ("b",))
        # One manager may be used again, and within itself.
        led.vote("b")
        with manager:
            led.vote("a")
            with manager as one:
                one.undo()
                one.undo()
                self.assertEqual(led.votes(), ("b",))
            self.assertEqual(led.votes(), ("b", "b", "a"))
            led.vote("a")
        self.assertEqual(led.votes(), ("b", "b"))
        with manager:
            led.undo()
        self.assertEqual(led.votes(), ("b", "b"))

    def test_copies_in_a_trial_go_on_behind_it(self):
        led = Led(ONE, ("a",))
        led.vote("b")
        with led.trial():
            led.vote("a")
            twin = led.copy()
            with twin.trial():
                twin.vote("b")
                led.vote("b")
        self.assertEqual((led.votes(), twin.votes()), (("b",), ("b", "a")))
        self.assertEqual([twin.undo(), twin.undo(), twin.undo()], [True, True, False])

    def test_under(self):
        led = Led(ONE, ("a",))
        led.vote("b")
        self.assertEqual(under(led.trial(), lambda one: one.vote("a")), ("a",))
        self.assertEqual(led.votes(), ("b",))
        self.assertIs(under(led.trial(), lambda one: one), led)
        self.assertIsNone(under(led.trial(), lambda one: None))
        self.assertEqual(under(manager=led.trial(), deed=lambda one: (one.undo(), one.undo(), len(one))), (True, False, 0))
        self.assertEqual(led.votes(), ("b",))
        with self.assertRaises(BadChoices):
            under(led.trial(), lambda one: (one.vote("b"), one.vote("bb")))
        with self.assertRaises(Stop):
            under(led.trial(), self.stop)
        self.assertEqual((led.votes(), len(led), led.redo()), (("b",), 1, False))
        twice = lambda one: under(one.trial(), lambda other: other.vote("a")) + under(one.trial(), lambda other: other.votes())
        self.assertEqual(under(led.trial(), twice), ("a", "b"))

    def stop(self, one):
        one.undo()
        raise Stop


class Equal(Leading):
    def led(self, *deeds, house=HOUSE, stand=STAND):
        one = Led(house, stand)
        for deed in deeds:
            one.vote(deed) if isinstance(deed, str) else one.amend(*deed)
        return one

    def assert_equal(self, one, other, told):
        self.assertIs(one == other, told)
        self.assertIs(other == one, told)
        self.assertIs(one != other, not told)
        self.assertIs(other != one, not told)

    def test_by_the_beginning_and_the_deeds(self):
        self.assert_equal(self.led(), self.led(), True)
        self.assert_equal(self.led("aa", (1, 0, KEPT)), self.led("aa", (1, 0, KEPT)), True)
        others = [self.led(), self.led("aa"), self.led("ab"), self.led("aa", "aa"), self.led((1, 0, KEPT)),
                  self.led("aa", (1, 0, KEPT)), self.led((1, 0, KEPT), "aa"), self.led((0, 0, KEPT)),
                  self.led(stand=("aab", "b")), self.led(house=(HOUSE[0], 3)), self.led(house=(HOUSE[0][:1], 2), stand=("abb",))]
        for first, second in itertools.product(range(len(others)), repeat=2):
            self.assert_equal(others[first], others[second], first == second)

    def test_not_by_how_it_is_now(self):
        # Both stand as the other one does, but came there by other deeds.
        one, other = Led((((KEPT,),), 1), ("a",)), Led((((KEPT,),), 1), ("a",))
        one.vote("a")
        other.vote("b")
        self.assertEqual((one.house, one.stand, one.number), (other.house, other.stand, other.number))
        self.assert_equal(one, other, False)
        turned = Led(ONE, ("a",))
        turned.vote("b")
        self.assert_equal(turned, Led(ONE, ("b",)), False)
        self.assert_equal(self.led((1, 0, KEPT), (1, 0, HOUSE[0][1][0])), self.led(), False)

    def test_not_by_what_was_taken_back(self):
        one, other = self.led("aa", "bb", "ab"), self.led("aa")
        self.assert_equal(one, other, False)
        one.undo()
        one.undo()
        self.assert_equal(one, other, True)
        one.redo()
        self.assert_equal(one, other, False)
        other.vote("bb")
        self.assert_equal(one, other, True)
        self.assert_equal(one, one.copy(), True)
        with one.trial():
            one.vote("aa")
            self.assert_equal(one, other, False)
        self.assert_equal(one, other, True)

    def test_things_of_every_other_kind(self):
        one = self.led("aa")
        for thing in things() + [one.trial(), (HOUSE, STAND), one.votes(), Agreeing(), Hostile()]:
            self.assertIs(one == thing, False)
            self.assertIs(one != thing, True)
            if not isinstance(thing, (Agreeing, Hostile)):
                self.assertIs(thing == one, False)
                self.assertIs(thing != one, True)


class Operators(unittest.TestCase):
    def test_operators_that_are_not_described(self):
        one = Led(ONE, ("a",))
        one.vote("b")
        signs = [getattr(operator, name) for name in (
            "add sub mul floordiv truediv mod pow and_ or_ xor lshift rshift matmul lt le gt ge iadd isub imul iand ior"
            " contains getitem concat").split()]
        plain_things = [None, True, 0, 1, -1, HUGE, "", "a", b"a", (), ("a",), [], [1], {}, {1: 2}, object(), 1.5,
                        Led(ONE, ("a",)), one, one.trial()]
        for sign, thing in itertools.product(signs, plain_things):
            with self.assertRaises(TypeError):
                sign(one, thing)
            if sign is operator.mod and isinstance(thing, (str, bytes)):
                continue
            if sign is operator.contains and isinstance(thing, (tuple, list)):
                continue
            with self.assertRaises((TypeError, KeyError) if isinstance(thing, dict) else TypeError):
                sign(thing, one)
        for sign in (operator.neg, operator.pos, operator.invert, abs, iter, int, reversed, next, operator.index):
            with self.assertRaises(TypeError):
                sign(one)
        self.assertEqual((one.votes(), len(one)), (("b",), 1))


class Interface(unittest.TestCase):
    def test_the_class_defines_what_is_listed_for_it(self):
        own = vars(Led)
        for name in ("vote", "amend", "votes", "undo", "redo", "copy", "trial", "__len__", "__eq__", "__init__"):
            self.assertTrue(inspect.isfunction(own[name]), name)
        for name in ("house", "stand", "number"):
            self.assertIs(type(own[name]), property, name)
            with self.assertRaises(AttributeError):
                setattr(Led(ONE, ("a",)), name, None)
        self.assertEqual(Led.__module__, "termseats.led")
        self.assertEqual(under.__module__, "termseats.led")
        self.assertTrue(inspect.isfunction(led_module.under))

    def test_arguments_by_position_and_by_name(self):
        parameters = {Led.vote: ["self", "choices"], Led.amend: ["self", "body", "place", "seat"], Led.votes: ["self"],
                      Led.undo: ["self"], Led.redo: ["self"], Led.copy: ["self"], Led.trial: ["self"],
                      Led: ["house", "stand"], under: ["manager", "deed"]}
        for function, names in parameters.items():
            told = inspect.signature(function).parameters.values()
            self.assertEqual([one.name for one in told], names)
            self.assertEqual({(one.kind, one.default) for one in told}, {(one.POSITIONAL_OR_KEYWORD, one.empty) for one in told})
        one = Led(stand=STAND, house=HOUSE)
        self.assertEqual(one.vote(choices="aa"), ("abb", "b"))
        one.amend(seat=KEPT, place=0, body=1)
        one.amend(0, seat=KEPT, place=1)
        self.assertEqual(one.house[0][1][0], KEPT)
        self.assertEqual(one.house[0][0][1], KEPT)
        self.assertEqual(is_just(one.votes(), ("aa",)), True)


if __name__ == "__main__":
    unittest.main()
