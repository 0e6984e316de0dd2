import inspect
import itertools
import operator
import random
import unittest

from termseats.desk import Desk
from termseats.errors import BadHouse, BadStand, BadText
from termseats.led import Led
from termseats.texts import house_text, stand_text
from tests import plain
from tests.refusing import Refusing
from tests.test_led import Record, amended, some_seat
from tests.test_texts import otherwise
from tests.things import CHARACTERS, HUGE, Hostile, small_house, some_letters, some_stand, things

TEXT = "wards 2\nbody\n1 0 ward 0\n2 1 ward 1\n2 0 rest 0 kept\nbody\n4 3 body 0 a"
HOUSE = ((((1, 0, ("ward", 0)), (2, 1, ("ward", 1)), (2, 0, ("rest", 0, "kept"))), ((4, 3, ("body", 0, "a")),)), 2)
NO_WARDS = "wards 0\nbody\n2 1 kept\n3 2 rest 0 b"


def words_of(seat):
    term, phase, way = seat
    return " ".join([str(part) for part in (term, phase) + way])


def more_of(stand):
    return " ".join(["a" if row.count("a") > row.count("b") else "b" if row.count("b") > row.count("a") else "="
                     for row in stand])


def due_of(house, number):
    return " ".join([f"{body}.{place}" for body, row in enumerate(house[0]) for place, (term, phase, _) in enumerate(row)
                     if number % term == phase]) or "none"


class Answers(Refusing):
    def assert_said(self, desk, *pairs):
        for line, answer in pairs:
            told = desk.say(line)
            self.assertEqual((line, told), (line, answer))
            self.assertIs(type(told), str)

    def assert_nothing_changed_by(self, desk, line):
        led = desk.led
        before = led.copy()
        self.assert_said(desk, (line, "bad line"))
        self.assertIs(desk.led, led)
        self.assertEqual((led, led.house, led.stand, led.number), (before, before.house, before.stand, before.number))
        # What can be done again stays, too.
        with led.trial() as one:
            self.assertEqual([one.redo() for _ in range(9)], [before.redo() for _ in range(9)])
            self.assertEqual(one, before)

    def test_by_hand(self):
        desk = Desk(TEXT, "abb b")
        self.assert_said(
            desk, ("year", "0"), ("stand", "abb b"), ("more", "b b"), ("due", "0.0 0.2"), ("undo", "nothing"), ("redo", "nothing"),
            ("vote ba", "bbb b"), ("year", "1"), ("due", "0.0 0.1"), ("vote aa", "aab b"), ("more", "a b"), ("stand", "aab b"),
            ("seat 0 0", "a 1 0 ward 0"), ("seat 0 2", "b 2 0 rest 0 kept"), ("seat 1 0", "b 4 3 body 0 a"),
            ("amend 1 0 1 0 ward 0", "done"), ("seat 1 0", "b 1 0 ward 0"), ("year", "2"), ("due", "0.0 0.2 1.0"),
            ("undo", "done"), ("seat 1 0", "b 4 3 body 0 a"), ("year", "2"), ("undo", "done"), ("year", "1"), ("stand", "bbb b"),
            ("redo", "done"), ("redo", "done"), ("redo", "nothing"), ("vote bb", "baa b"), ("redo", "nothing"), ("year", "3"),
            ("amend 0 0 6 1 kept", "done"), ("amend 0 1 2 0 rest 1 b", "done"), ("amend 0 2 2 0 kept", "done"),
            ("amend 1 0 1 0 body 0 kept", "done"), ("due", "1.0"), ("amend 1 0 4 1 kept", "done"), ("due", "none"),
            ("more", "a b"), ("stand", "baa b"))

    def test_no_wards(self):
        desk = Desk(NO_WARDS, "ab")
        self.assert_said(
            desk, ("vote -", "ab"), ("vote ", "bad line"), ("vote", "bad line"), ("vote a", "bad line"), ("more", "="), ("vote -", "ab"),
            ("due", "0.1"), ("vote -", "aa"), ("year", "3"), ("due", "0.0"), ("more", "a"), ("vote - -", "bad line"), ("year", "3"))
        self.assert_said(Desk(TEXT, "abb b"), ("vote -", "bad line"), ("vote --", "bad line"))

    def test_ties(self):
        self.assert_said(Desk("wards 1\nbody\n2 1 kept\n2 1 kept\nbody\n2 1 kept", "ab b"), ("more", "= b"), ("due", "none"))

    def test_against_a_plain_record(self):
        rng = random.Random(161)
        for _ in range(40):
            house = small_house(rng, rng.randint(1, 3), rng.randint(0, 4), 5)
            stand = some_stand(rng, house)
            desk, record = Desk(house_text(house), stand_text(house, stand)), Record(house, stand)
            for _ in range(40):
                self.say_something(rng, desk, record)
                now, where, votes = record.now()
                body = rng.randrange(len(now[0]))
                place = rng.randrange(len(now[0][body]))
                self.assert_said(
                    desk, ("year", str(len(votes))), ("stand", " ".join(where)), ("more", more_of(where)),
                    ("due", due_of(now, len(votes))),
                    (f"seat {body} {place}", f"{where[body][place]} {words_of(now[0][body][place])}"))
                self.assertEqual((desk.led.house, desk.led.stand, desk.led.votes()), (now, where, votes))
                self.assertEqual(len(desk.led), len(record.deeds))

    def say_something(self, rng, desk, record):
        house = record.now()[0]
        what = rng.choice(("vote", "vote", "amend", "undo", "redo", "redo", "bad"))
        if what == "vote":
            choices = some_letters(rng, house[1])
            record.do(("vote", choices))
            self.assert_said(desk, (f"vote {choices or '-'}", " ".join(record.now()[1])))
        elif what == "amend":
            body = rng.randrange(len(house[0]))
            place, seat = rng.randrange(len(house[0][body])), some_seat(rng, house)
            answer = desk.say(f"amend {body} {place} {words_of(seat)}")
            if answer == "done":
                record.do(("amend", body, place, seat))
            else:
                self.assertEqual(answer, "bad line")
                self.assertGreater(plain.round_of(amended(house, body, place, seat)), 12)
        elif what == "bad":
            self.assert_nothing_changed_by(desk, rng.choice((
                "vote c", "vote", f"vote {'a' * (house[1] + 1)}", "amend 0 0", "amend 9 0 1 0 kept", "amend 0 0 1 1 kept", "")))
        else:
            self.assert_said(desk, (what, "done" if getattr(record, what)() else "nothing"))

    def test_the_led_house_itself(self):
        desk = Desk(TEXT, "abb b")
        led = desk.led
        self.assertIs(type(led), Led)
        self.assertIs(desk.led, led)
        self.assertEqual(led, Led(HOUSE, ("abb", "b")))
        desk.say("vote aa")
        self.assertEqual(led.votes(), ("aa",))
        led.vote("bb")
        self.assert_said(desk, ("year", "2"), ("undo", "done"))
        self.assertEqual(led.votes(), ("aa",))
        with led.trial():
            self.assert_said(desk, ("vote ab", "abb b"), ("redo", "nothing"), ("year", "2"))
        self.assert_said(desk, ("year", "1"), ("redo", "done"), ("year", "2"))
        with self.assertRaises(AttributeError):
            desk.led = None


class BadLines(Answers):
    def started(self):
        desk = Desk(TEXT, "abb b")
        for line in ("vote ab", "amend 0 0 1 0 ward 1", "vote bb", "undo", "undo"):
            desk.say(line)
        return desk

    def test_by_hand(self):
        desk = self.started()
        for line in (
                "", " ", "\n", "Year", "year ", " year", "year\n", "\nyear", "year 0", "years", "yea", "stand ", "stand 0", "stand a",
                "more more", "due 0", "due ", "undo 1", "undo ", "undo undo", "redo 1", "redo\n", "vote", "vote ", "vote a", "vote aba",
                "vote a b", "vote ab ", "vote  ab", " vote ab", "vote ab ab", "vote none", "vote -", "vote Ab", "vote a?", "vote ab\n",
                "Vote ab", "vote\nab", "seat", "seat 0", "seat 0 0 0", "seat 0 3", "seat 2 0", "seat 1 1", "seat -1 0", "seat 0 -1",
                "seat 00 0", "seat 0 00", "seat +0 0", "seat 0 0 ", "seat  0 0", "seat a 0", "seat 0.0", "seat 12345678 0",
                "seat 0 9999999", "amend", "amend 0", "amend 0 0", "amend 0 0 1", "amend 0 0 1 0", "amend 0 0 1 0 ward",
                "amend 0 0 1 0 ward 2", "amend 0 0 1 0 ward 0 0", "amend 0 0 1 0 kept kept", "amend 0 0 1 0 body 2 a",
                "amend 0 0 1 0 body 0 c", "amend 0 0 1 0 rest 0", "amend 0 0 0 0 kept", "amend 0 0 1 1 kept", "amend 0 0 7 0 kept",
                "amend 0 3 1 0 kept", "amend 2 0 1 0 kept", "amend 1 1 1 0 kept", "amend 0 0 01 0 kept", "amend 0 0 1 0  kept",
                "amend 0 0 1 0 kept ", "amend 00 0 1 0 kept", "amend 0 0 1 0 Kept", "amend 0 1 5 0 kept", "amend 0.0 1 0 kept",
                "none", "done", "nothing", "bad line", "led", "copy", "trial", "votes", "wards 2", "body", TEXT):
            self.assert_nothing_changed_by(desk, line)
        self.assert_said(desk, ("redo", "done"), ("redo", "done"), ("redo", "nothing"))

    def test_things_of_every_kind(self):
        desk = self.started()
        for thing in things() + [b"year", ["year"], ("year",), Hostile(), HUGE]:
            self.assert_nothing_changed_by(desk, thing)

    def test_each_character(self):
        desk = self.started()
        for sign in CHARACTERS:
            for line in ("year" + sign, sign + "year", "undo" + sign, "vote ab" + sign, "seat 0 0" + sign, "vote a" + sign):
                if line in ("vote aa", "vote ab"):
                    continue
                self.assert_nothing_changed_by(desk, line)

    def test_lines_otherwise(self):
        rng = random.Random(162)
        known = bad = 0
        for _ in range(3000):
            desk = self.started()
            line = rng.choice(("vote ab", "amend 0 1 2 1 ward 1", "amend 1 0 4 3 body 0 kept", "undo", "redo", "year", "stand", "more",
                               "due", "seat 0 2", "seat 1 0", "amend 0 2 3 0 rest 1 a", "amend 0 0 1 0 kept"))
            line = otherwise(rng, line)
            if self.is_known(line):
                known += 1
                self.assertNotEqual(desk.say(line), "bad line", line)
            else:
                bad += 1
                self.assert_nothing_changed_by(desk, line)
        self.assertGreater(min(known, bad), 200)

    def is_known(self, line):
        """Whether a line is one that can be answered ahead of all years, word by word."""
        words = line.split(" ")
        if words[0] in ("undo", "redo", "year", "stand", "more", "due"):
            return len(words) == 1
        if words[0] == "vote":
            return len(words) == 2 and words[1] in ("aa", "ab", "ba", "bb")
        places = [["0", "0"], ["0", "1"], ["0", "2"], ["1", "0"]]
        if words[0] == "seat":
            return words[1:] in places
        if words[0] != "amend" or words[1:3] not in places or len(words) < 6:
            return False
        terms = {str(term): [str(phase) for phase in range(term)] for term in range(1, 7)}
        way = words[5:]
        ways = [["kept"], ["ward", "0"], ["ward", "1"]]
        ways += [list(one) for one in itertools.product(("body", "rest"), "01", ("a", "b", "kept"))]
        if words[3] not in terms or words[4] not in terms[words[3]] or way not in ways:
            return False
        seat = (int(words[3]), 0, ("kept",))
        return plain.round_of(amended(HOUSE, int(words[1]), int(words[2]), seat)) <= 12

    def test_more_than_400_deeds(self):
        desk = Desk(TEXT, "abb b")
        for number in range(400):
            self.assertNotEqual(desk.say("vote ab"), "bad line")
        for line in ("vote ab", "amend 0 0 1 0 kept"):
            self.assert_nothing_changed_by(desk, line)
        self.assert_said(desk, ("year", "400"), ("undo", "done"), ("amend 0 0 1 0 kept", "done"), ("year", "399"))
        self.assert_nothing_changed_by(desk, "vote ab")

    def test_a_round_that_is_too_great(self):
        desk = Desk(TEXT, "abb b")
        self.assert_nothing_changed_by(desk, "amend 0 1 5 0 kept")
        self.assert_said(desk, ("amend 1 0 1 0 kept", "done"), ("amend 0 1 5 0 kept", "done"))


class Made(Refusing):
    def test_errors_in_their_order(self):
        for text, stand, kind in (
                (None, None, BadText), ("", None, BadText), ("wards 9\nbody\n1 0 kept", None, BadHouse), (TEXT, None, BadText),
                (TEXT, "", BadText), (TEXT, "abb", BadText), (TEXT, "ab b", BadStand), (TEXT + "\n5 0 kept", "x", BadHouse),
                ("wards 9", "x y", BadText)):
            with self.assertRaises(kind) as caught:
                Desk(text, stand)
            self.assertIs(type(caught.exception), kind)
        for thing in things():
            with self.assertRaises(BadText):
                Desk(thing, Hostile())
            with self.assertRaises(BadText) as caught:
                Desk(TEXT, thing)
            if not isinstance(thing, str):
                self.assertEqual((caught.exception.line, caught.exception.word), (None, None))
        self.assert_refused(BadText, "word", 1, Desk, TEXT, "abb")
        self.assert_refused(BadStand, "value", ("ab", "b"), Desk, TEXT, "ab b")
        self.assert_refused(BadHouse, "place", "wards", Desk, TEXT.replace("wards 2", "wards 5"), None)

    def test_the_interface(self):
        self.assertIs(type(vars(Desk)["led"]), property)
        self.assertTrue(inspect.isfunction(vars(Desk)["say"]))
        self.assertEqual(Desk.__module__, "termseats.desk")
        for function, names in ((Desk, ["text", "stand"]), (Desk.say, ["self", "line"])):
            told = inspect.signature(function).parameters.values()
            self.assertEqual([one.name for one in told], names)
            self.assertEqual({(one.kind, one.default) for one in told}, {(one.POSITIONAL_OR_KEYWORD, one.empty)  for one in told})
        desk = Desk(stand="abb b", text=TEXT)
        self.assertEqual(desk.say(line="year"), "0")

    def test_operators_that_are_not_described(self):
        desk = Desk(TEXT, "abb b")
        for sign, thing in itertools.product(
                (operator.add, operator.mul, operator.lt, operator.ge, operator.contains, operator.getitem, operator.and_),
                (1, "a", (), [], None, desk, Desk(TEXT, "abb b"))):
            with self.assertRaises(TypeError):
                sign(desk, thing)
        for sign in (len, iter, operator.neg, abs):
            with self.assertRaises(TypeError):
                sign(desk)
        for thing in (1, "year", None, desk.led):
            self.assertIs(desk == thing, False)
            self.assertIs(desk != thing, True)


if __name__ == "__main__":
    unittest.main()
