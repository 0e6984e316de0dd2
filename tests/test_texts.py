import itertools
import random
import re
import unittest

from termseats.errors import BadChoices, BadHouse, BadStand, BadText
from termseats.houses import need_house
from termseats.texts import house_text, read_house, read_rows, read_stand, rows_text, stand_text
from tests.refusing import Refusing
from tests.things import CHARACTERS, HUGE, Hostile, all_ways, some_cases, some_house, some_letters, some_stand, things

KEPT = (1, 0, ("kept",))
ONE = (((KEPT,),), 1)
HOUSE = ((((6, 5, ("ward", 3)), (4, 0, ("body", 1, "kept"))), ((3, 2, ("rest", 0, "a")), (1, 0, ("kept",)))), 4)
TEXT = "wards 4\nbody\n6 5 ward 3\n4 0 body 1 kept\nbody\n3 2 rest 0 a\n1 0 kept"

NUMBER = re.compile(r"(0|[1-9][0-9]{0,6})\Z")


def fits(kind, word):
    """Whether a word is of a kind: a pattern, or one of some words."""
    return bool(kind.match(word)) if hasattr(kind, "match") else word in kind


# For each place in the text of a house: the kinds of words that can stand there, each with the place behind it;
# "line" stands for the end of a line, "text" for that of the text.
GRAMMAR = {
    "wards": [(("wards",), "many")],
    "many": [(NUMBER, "behind many")],
    "behind many": [("line", "first body")],
    "first body": [(("body",), "behind body")],
    "behind body": [("line", "first seat")],
    "first seat": [(NUMBER, "phase")],
    "seat": [(NUMBER, "phase"), (("body",), "behind body"), ("text", None)],
    "phase": [(NUMBER, "way")],
    "way": [(("ward",), "last number"), (("body", "rest"), "number"), (("kept",), "behind seat")],
    "last number": [(NUMBER, "behind seat")],
    "number": [(NUMBER, "tie")],
    "tie": [(("a", "b", "kept"), "behind seat")],
    "behind seat": [("line", "seat")],
}


def stand_grammar(bodies):
    grammar = {at: [(re.compile(r"[ab]+\Z"), at + 1)] for at in range(bodies)}
    return {**grammar, bodies: [("line", "end")], "end": [("text", None)]}


def rows_grammar(wards):
    choices = re.compile(r"[ab]{%d}\Z" % wards) if wards else ("-",)
    return {0: [(choices, 1)], 1: [(choices, 1), ("line", "end")], "end": [("text", None)]}


def first_wrong(text, grammar, place):
    """(line, word) of the first word, or of the end, that cannot stand where it does; None if the text has the form."""
    signs = []
    lines = text.split("\n")
    for number, line in enumerate(lines):
        words = line.split(" ")
        signs += [(number, at, word) for at, word in enumerate(words)] + [(number, len(words), None)]
    for number, at, word in signs + [(len(lines), 0, "text")]:
        # An empty line has no words: its end comes where the first word would stand, at the same place.
        behind = None
        for kind, later in grammar[place]:
            if kind == "line":
                found = word is None
            elif kind == "text":
                found = (number, word) == (len(lines), "text")
            else:
                found = word is not None and number < len(lines) and fits(kind, word)
            if found:
                behind = (later,)
        if behind is None:
            return (number, at)
        place = behind[0]
    return None


def plain_house(text):
    """The house that a text of the right form tells."""
    lines = [line.split() for line in text.split("\n")]
    bodies = []
    for words in lines[1:]:
        if words == ["body"]:
            bodies.append([])
        else:
            way = tuple([int(word) if word.isdigit() else word for word in words[2:]])
            bodies[-1].append((int(words[0]), int(words[1]), way))
    return (tuple([tuple(body) for body in bodies]), int(lines[0][1]))


def otherwise(rng, text):
    """A text that is much like another one: a word or a line or a sign otherwise, left out, put in, doubled."""
    lines = [line.split(" ") for line in text.split("\n")]
    at = rng.randrange(len(lines))
    place = rng.randrange(len(lines[at]))
    word = rng.choice(["a", "b", "ab", "aab", "kept", "ward", "rest", "body", "wards", "none", "-", "", "0", "1", "2", "3", "6",
                       "12", "00", "01", "+1", "-1", "1234567", "12345678", "0000001", "9999999", "x", "A", "1a", "?", "=", "body "])
    what = rng.randrange(12)
    if what == 0:
        lines[at][place] = word
    elif what == 1:
        lines[at].insert(place, word)
    elif what == 2:
        lines[at].append(word)
    elif what == 3:
        del lines[at][place]
    elif what == 4:
        lines[at].insert(place, lines[at][place])
    elif what == 5:
        lines.insert(at, list(lines[rng.randrange(len(lines))]))
    elif what == 6:
        del lines[at]
    elif what == 7:
        lines.insert(at, [rng.choice(["", "body", "wards 1", "1 0 kept", "a", "none", "x"])])
    elif what == 8:
        lines.append([rng.choice(["", "body", "wards 1", "1 0 kept", "a", "none", "x"])])
    elif what == 9:
        far = rng.randrange(len(lines))
        lines[at], lines[far] = lines[far], lines[at]
    elif what == 10:
        del lines[at:]
    else:
        text = "\n".join([" ".join(words) for words in lines])
        at = rng.randrange(len(text) + 1)
        sign = rng.choice(list(CHARACTERS) + [" "] * 30 + ["\n"] * 30 + list("ab019") * 8)
        return rng.choice([text[:at] + sign + text[at:], text[:at] + sign + text[at + 1:], text[:at] + text[at + 1:]])
    return "\n".join([" ".join(words) for words in lines])


class Texts(Refusing):
    def assert_bad(self, place, function, *arguments):
        """BadText with this pair of a line and a word."""
        with self.assertRaises(BadText) as caught:
            function(*arguments)
        self.assertEqual((caught.exception.line, caught.exception.word), place, arguments[-1])
        self.assertEqual({type(caught.exception.line), type(caught.exception.word)}, {type(place[0])})


class Writing(Texts):
    def test_by_hand(self):
        self.assertEqual(house_text(HOUSE), TEXT)
        self.assertEqual(house_text(ONE), "wards 1\nbody\n1 0 kept")
        self.assertEqual(stand_text(HOUSE, ("ab", "bb")), "ab bb")
        self.assertEqual(stand_text(ONE, ("a",)), "a")
        self.assertEqual(rows_text(ONE, ["a", "b", "a"]), "a b a")
        self.assertEqual(rows_text(HOUSE, ("abba", "bbbb")), "abba bbbb")
        self.assertEqual(rows_text(ONE, ("b",)), "b")
        for house in (ONE, HOUSE, (((KEPT,),), 0)):
            self.assertEqual((rows_text(house, []), rows_text(house, ())), ("none", "none"))
        self.assertEqual(rows_text((((KEPT,),), 0), [""]), "-")
        self.assertEqual(rows_text((((KEPT,),), 0), ("", "", "")), "- - -")

    def test_each_way(self):
        for bodies, wards in itertools.product((1, 2, 3), range(5)):
            for way in all_ways(bodies, wards):
                house = (((KEPT,),) * (bodies - 1) + (((6, 4, way), (3, 0, way)),), wards)
                words = " ".join([str(part) for part in way])
                text = f"wards {wards}\n" + "body\n1 0 kept\n" * (bodies - 1) + f"body\n6 4 {words}\n3 0 {words}"
                self.assertEqual(house_text(house), text)
                self.assertEqual(read_house(text), house)

    def test_the_order(self):
        self.assert_first(house_text, (HOUSE,), (BadHouse,))
        self.assert_things(house_text, (HOUSE,), (BadHouse,))
        self.assert_first(stand_text, (HOUSE, ("ab", "ab")), (BadHouse, BadStand))
        self.assert_things(stand_text, (HOUSE, ("ab", "ab")), (BadHouse, BadStand))
        self.assert_first(rows_text, (HOUSE, ["abab"]), (BadHouse, BadChoices))
        self.assert_things(rows_text, (HOUSE, ["abab"]), (BadHouse, BadChoices), [(), []])
        self.assert_refused(BadChoices, "place", None, rows_text, HOUSE, ["aaaa"] * 401)
        self.assert_refused(BadChoices, "place", 1, rows_text, HOUSE, ["aaaa", "-", None])


class Back(Texts):
    def test_houses_stands_and_rows(self):
        for rng, house, stand in some_cases(300, 151):
            text = house_text(house)
            told = read_house(text)
            self.assertEqual(told, house)
            self.assertEqual(repr(told), repr(house))
            self.assertEqual(house_text(told), text)
            self.assertEqual(plain_house(text), house)
            self.assertEqual(read_stand(house, stand_text(house, stand)), stand)
            rows = tuple([some_letters(rng, house[1]) for _ in range(rng.choice((0, 1, 2, 9, 400)))])
            self.assertEqual(read_rows(house, rows_text(house, rows)), rows)
            self.assertEqual(read_rows(house, rows_text(house, list(rows))), rows)
            self.assertIs(type(read_rows(house, "none")), tuple)

    def test_rows_of_each_number_of_wards(self):
        for wards in range(5):
            house = (((KEPT,),), wards)
            for rows in itertools.product(["".join(one) for one in itertools.product("ab", repeat=wards)], repeat=2):
                self.assertEqual(read_rows(house, " ".join(rows) if wards else "- -"), rows)


class BadHouses(Texts):
    def test_by_hand(self):
        for text, place in (
                ("", (0, 0)), ("\n", (0, 0)), (" ", (0, 0)), ("wards", (0, 1)), ("wards ", (0, 1)), ("ward 1", (0, 0)),
                ("Wards 1", (0, 0)), ("wards a", (0, 1)), ("wards -1", (0, 1)), ("wards +1", (0, 1)), ("wards 01", (0, 1)),
                ("wards 00", (0, 1)), ("wards 12345678", (0, 1)), ("wards  1", (0, 1)), (" wards 1", (0, 0)), ("wards 1 ", (0, 2)),
                ("wards 1 1", (0, 2)), ("wards 1", (1, 0)), ("wards 1\n", (1, 0)), ("wards 1\n\nbody", (1, 0)),
                ("wards 1\nbod", (1, 0)), ("wards 1\n1 0 kept", (1, 0)), ("wards 1\nbody", (2, 0)), ("wards 1\nbody\n", (2, 0)),
                ("wards 1\nbody 1\n1 0 kept", (1, 1)), ("wards 1\nbody \n1 0 kept", (1, 1)), ("wards 1\nbody\nbody", (2, 0)),
                ("wards 1\nbody\n1", (2, 1)), ("wards 1\nbody\n1 0", (2, 2)), ("wards 1\nbody\n1 0 ward", (2, 3)),
                ("wards 1\nbody\n1 0 ward a", (2, 3)), ("wards 1\nbody\n1 0 ward 0 a", (2, 4)), ("wards 1\nbody\n1 0 kept 0", (2, 3)),
                ("wards 1\nbody\n1 0 body 0", (2, 4)), ("wards 1\nbody\n1 0 body 0 c", (2, 4)), ("wards 1\nbody\n1 0 body a", (2, 3)),
                ("wards 1\nbody\n1 0 rest 0 kept kept", (2, 5)), ("wards 1\nbody\n1 0 rest 0 =", (2, 4)),
                ("wards 1\nbody\n1 0 none", (2, 2)), ("wards 1\nbody\n1 kept", (2, 1)), ("wards 1\nbody\nkept", (2, 0)),
                ("wards 1\nbody\n1 0 kept\n", (3, 0)), ("wards 1\nbody\n1 0 kept\n\n", (3, 0)), ("wards 1\nbody\n1 0 kept\nbody", (4, 0)),
                ("wards 1\nbody\n1 0 kept\nbody\nbody\n1 0 kept", (4, 0)), ("wards 1\nbody\n1 0 kept\nwards 1", (3, 0)),
                ("wards 1\nbody\n1 0  kept", (2, 2)), ("wards 1\nbody\n1 0 kept ", (2, 3)), ("wards 1\nbody\n 1 0 kept", (2, 0)),
                # The first of several wrong words.
                ("wards x\nbody x\n1 0", (0, 1)), ("wards 1\nbody x\n1 x", (1, 1)), ("wards 9\nbody\n7 0 kept\nx", (3, 0))):
            self.assert_bad(place, read_house, text)

    def test_things_that_are_no_strings(self):
        for thing in things() + [TEXT.encode(), [TEXT], (TEXT,), TEXT.split("\n")]:
            if isinstance(thing, str):
                self.assert_bad((0, 0), read_house, thing)
            else:
                self.assert_bad((None, None), read_house, thing)

    def test_texts_otherwise(self):
        rng = random.Random(152)
        bad, right, refused = set(), 0, 0
        for _ in range(6000):
            text = house_text(some_house(rng)) if rng.random() < 0.8 else TEXT
            for _ in range(rng.choice((1, 1, 1, 2))):
                text = otherwise(rng, text)
            place = first_wrong(text, GRAMMAR, "wards")
            if place is not None:
                bad.add(place)
                self.assert_bad(place, read_house, text)
                continue
            house = plain_house(text)
            try:
                need_house(house)
            except BadHouse as error:
                refused += 1
                self.assert_refused(BadHouse, "place", error.place, read_house, text)
            else:
                right += 1
                self.assertEqual(read_house(text), house)
        self.assertGreater(len(bad), 60)
        self.assertGreater(min(right, refused), 100)

    def test_each_place_of_a_text(self):
        # Each word of the text is replaced by each other word, and left out.
        words = ["wards", "body", "ward", "rest", "kept", "a", "b", "0", "1", "9999999", "10000000", "x", "", "00", "-0"]
        lines = TEXT.split("\n")
        for at, line in enumerate(lines):
            row = line.split(" ")
            for place in range(len(row)):
                for word in words + [None]:
                    new = row[:place] + ([word] if word is not None else []) + row[place + 1:]
                    text = "\n".join(lines[:at] + [" ".join(new)] + lines[at + 1:])
                    wrong = first_wrong(text, GRAMMAR, "wards")
                    if wrong is not None:
                        self.assert_bad(wrong, read_house, text)
                    else:
                        self.assertEqual(repr(self.house_or_place(read_house, text)),
                                         repr(self.house_or_place(need_house, plain_house(text))))

    def house_or_place(self, function, argument):
        try:
            return function(argument)
        except BadHouse as error:
            return ("refused", error.place)

    def test_numbers_up_to_seven_figures(self):
        self.assert_refused(BadHouse, "place", "wards", read_house, TEXT.replace("wards 4", "wards 9999999"))
        self.assert_refused(BadHouse, "place", (0, 0), read_house, TEXT.replace("6 5", "9999999 1000000"))
        self.assert_refused(BadHouse, "place", (0, 0), read_house, TEXT.replace("ward 3", "ward 1234567"))
        for figures in ("12345678", "00000000", "0000000", str(HUGE), "1" * 8):
            self.assert_bad((2, 0), read_house, TEXT.replace("6 5", figures + " 5"))

    def test_what_is_told_and_is_no_house(self):
        for text, place in (
                (TEXT.replace("wards 4", "wards 5"), "wards"), (TEXT.replace("wards 4", "wards 3"), (0, 0)),
                (TEXT + "\nbody\n1 0 kept", None), (TEXT + "\nbody\n1 0 kept" * 2, "bodies"), (TEXT + "\n1 0 kept" * 5, None),
                (TEXT + "\n1 0 kept" * 6, "seats"), (TEXT + "\n1 0 kept" * 8, (1,)), (TEXT + "\n5 0 kept", "round"),
                (TEXT.replace("6 5", "6 6"), (0, 0)), (TEXT.replace("6 5", "0 0"), (0, 0)),
                (TEXT.replace("body 1", "body 2"), (0, 1)), (TEXT.replace("rest 0", "rest 2"), (1, 0))):
            if place is None:
                self.assertEqual(house_text(read_house(text)), text)
            else:
                self.assert_refused(BadHouse, "place", place, read_house, text)


class BadStands(Texts):
    def test_by_hand(self):
        house = ((((KEPT,) * 2), (KEPT,)), 1)
        for text, place in (("", (0, 0)), ("ab", (0, 1)), ("ab ", (0, 1)), (" ab a", (0, 0)), ("ab  a", (0, 1)), ("ab a ", (0, 2)),
                            ("ab a a", (0, 2)), ("ab a\n", (1, 0)), ("ab a\nab a", (1, 0)), ("ab\na", (0, 1)), ("ab A", (0, 1)),
                            ("a? a", (0, 0)), ("ab =", (0, 1)), ("ab -", (0, 1)), ("none", (0, 0)), ("ab x y", (0, 1)), ("\n", (0, 0)),
                            ("x\ny", (0, 0)), ("ab a x\ny", (0, 2))):
            self.assert_bad(place, read_stand, house, text)
        for text in ("a a", "ab ab", "abb a", "a" * 400 + " b"):
            self.assert_refused(BadStand, "value", tuple(text.split(" ")), read_stand, house, text)
        self.assertEqual(read_stand(house, "ab a"), ("ab", "a"))

    def test_texts_otherwise(self):
        bad, right, refused = set(), 0, 0
        for rng, house, stand in itertools.chain(*[some_cases(800, seed) for seed in (153, 154)]):
            text = otherwise(rng, stand_text(house, stand)) if rng.random() < 0.9 else stand_text(house, some_stand(rng, house))
            place = first_wrong(text, stand_grammar(len(house[0])), 0)
            if place is not None:
                bad.add(place)
                self.assert_bad(place, read_stand, house, text)
            elif [len(word) for word in text.split(" ")] == [len(body) for body in house[0]]:
                right += 1
                self.assertEqual(read_stand(house, text), tuple(text.split(" ")))
            else:
                refused += 1
                self.assert_refused(BadStand, "value", tuple(text.split(" ")), read_stand, house, text)
        self.assertGreater(len(bad), 4)
        self.assertGreater(min(right, refused), 30)


class BadRows(Texts):
    def test_by_hand(self):
        none, two = (((KEPT,),), 0), (((KEPT,),), 2)
        for house, text, place in (
                (two, "", (0, 0)), (two, "\n", (0, 0)), (two, " ", (0, 0)), (two, "a", (0, 0)), (two, "aba", (0, 0)), (two, "ab ", (0, 1)),
                (two, "ab  ab", (0, 1)), (two, " ab", (0, 0)), (two, "ab\n", (1, 0)), (two, "ab\nab", (1, 0)), (two, "ab -", (0, 1)),
                (two, "-", (0, 0)), (two, "ab none", (0, 1)), (two, "none ab", (0, 0)), (two, "None", (0, 0)), (two, "ab ac b", (0, 1)),
                (two, "ab a\nx", (0, 1)), (none, "", (0, 0)), (none, "--", (0, 0)), (none, "- ", (0, 1)), (none, "a", (0, 0)),
                (none, "- a", (0, 1)), (none, "-\n", (1, 0)), (none, "- none", (0, 1)), (none, "none -", (0, 0))):
            self.assert_bad(place, read_rows, house, text)
        self.assertEqual(read_rows(two, "none"), ())
        self.assertEqual(read_rows(none, "none"), ())
        self.assertEqual(read_rows(none, "- -"), ("", ""))

    def test_more_than_400_choices(self):
        for house, word in ((ONE, "a"), (HOUSE, "abba"), ((((KEPT,),), 0), "-")):
            self.assertEqual(len(read_rows(house, " ".join([word] * 400))), 400)
            for many in (401, 500):
                self.assert_refused(BadChoices, "place", None, read_rows, house, " ".join([word] * many))
            self.assert_bad((0, 400), read_rows, house, " ".join([word] * 400 + ["x"]))

    def test_texts_otherwise(self):
        bad, right = set(), 0
        for rng, house, _ in itertools.chain(*[some_cases(800, seed) for seed in (155, 156)]):
            rows = [some_letters(rng, house[1]) for _ in range(rng.randint(0, 4))]
            text = otherwise(rng, rows_text(house, rows))
            place = first_wrong(text, rows_grammar(house[1]), 0)
            if text == "none":
                self.assertEqual(read_rows(house, text), ())
            elif place is not None:
                bad.add(place)
                self.assert_bad(place, read_rows, house, text)
            else:
                right += 1
                self.assertEqual(read_rows(house, text), tuple([word if house[1] else "" for word in text.split(" ")]))
        self.assertGreater(len(bad), 5)
        self.assertGreater(right, 80)


class TheOrder(Texts):
    def test_of_the_errors(self):
        for function in (read_stand, read_rows):
            for thing in things():
                for text in ("", "a", None, Hostile()):
                    with self.assertRaises(BadHouse):
                        function(thing, text)
                if isinstance(thing, str):
                    if thing not in ("a", "b"):
                        with self.assertRaises((BadText, BadStand)):
                            function(ONE, thing)
                else:
                    self.assert_bad((None, None), function, ONE, thing)
        self.assert_refused(BadHouse, "place", "wards", read_stand, (ONE[0], 5), None)
        self.assert_refused(BadHouse, "place", "form", read_rows, TEXT, "none")


if __name__ == "__main__":
    unittest.main()
