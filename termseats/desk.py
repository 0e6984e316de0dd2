"""Desk: a led house to which one speaks by lines."""

from termseats.errors import SeatError, TooGreat
from termseats.led import Led, need_place
from termseats.texts import read_house, read_stand, seat_words, stand_words, take_seat
from termseats.words import Line
from termseats.years import due_seats, sides_with_more


def _vote(led, line):
    choices = line.take_choices(led.house[1])
    line.end()
    return stand_words(led.vote(choices))


def _amend(led, line):
    body = line.take_number()
    place = line.take_number()
    led.amend(body, place, take_seat(line))
    return "done"


def _undo(led, line):
    line.end()
    return "done" if led.undo() else "nothing"


def _redo(led, line):
    line.end()
    return "done" if led.redo() else "nothing"


def _year(led, line):
    line.end()
    return str(led.number)


def _stand(led, line):
    line.end()
    return stand_words(led.stand)


def _more(led, line):
    line.end()
    return " ".join(sides_with_more(led.stand))


def _due(led, line):
    line.end()
    due = [f"{body}.{place}" for body, place in due_seats(led.house, led.number)]
    return " ".join(due) if due else "none"


def _seat(led, line):
    body = line.take_number()
    place = line.take_number()
    line.end()
    need_place(led.house, body, place)
    letter = led.stand[body][place]
    words = seat_words(led.house[0][body][place])
    return f"{letter} {words}"


# What is done with the further words of a line, by its first word.
ACTIONS = {
    "vote": _vote, "amend": _amend, "undo": _undo, "redo": _redo, "year": _year, "stand": _stand, "more": _more,
    "due": _due, "seat": _seat}


def _answer(led, line):
    """The answer to a line; an error of the package if it is none that can be answered."""
    word = line.take_one_of(list(ACTIONS))
    action = ACTIONS[word]
    return action(led, line)


class Desk:
    """A led house to which one speaks by lines, each of which is answered."""

    def __init__(self, text, stand):
        house = read_house(text)
        self.leading = Led(house, read_stand(house, stand))

    @property
    def led(self):
        """The led house itself."""
        return self.leading

    def say(self, line):
        """The answer to a line."""
        if not isinstance(line, str):
            return "bad line"
        try:
            return _answer(self.leading, Line(line, 0))
        except (SeatError, TooGreat):
            return "bad line"
