"""Texts of houses, stands and rows of choices, and what they tell."""

from termseats.errors import BadText
from termseats.houses import TIES, need_house, need_stand
from termseats.words import need_lines, need_no_more
from termseats.years import need_rows


def seat_words(seat):
    """The words of a seat, with one space between."""
    term, phase, way = seat
    return " ".join([str(part) for part in (term, phase) + way])


def stand_words(stand):
    """The words of a stand, with one space between."""
    return " ".join(stand)


def take_seat(line):
    """The seat that all further words of a line tell; the numbers in it may be too great."""
    term = line.take_number()
    phase = line.take_number()
    word = line.take_one_of(("ward", "body", "rest", "kept"))
    way = (word,)
    if word != "kept":
        way += (line.take_number(),)
    if word in ("body", "rest"):
        way += (line.take_one_of(TIES),)
    line.end()
    return (term, phase, way)


def _take_bodies(lines):
    """The bodies that the lines behind the first one tell."""
    bodies = []
    for line in lines[1:]:
        # Behind "body" there has to come a seat.
        if not bodies or (bodies[-1] and line.begins_with("body")):
            line.take_one_of(("body",))
            line.end()
            bodies.append([])
        else:
            bodies[-1].append(take_seat(line))
    if not bodies or not bodies[-1]:
        raise BadText(len(lines), 0)
    return tuple([tuple(seats) for seats in bodies])


def house_text(house):
    """The text of a house."""
    need_house(house)
    bodies, wards = house
    lines = [f"wards {wards}"]
    for body in bodies:
        lines.append("body")
        lines.extend([seat_words(seat) for seat in body])
    return "\n".join(lines)


def stand_text(house, stand):
    """The text of a stand."""
    need_stand(house, stand)
    return stand_words(stand)


def rows_text(house, rows):
    """The text of rows of choices."""
    need_house(house)
    need_rows(house, rows)
    if not rows:
        return "none"
    return " ".join([choices if choices else "-" for choices in rows])


def read_house(text):
    """The house that a text tells."""
    lines = need_lines(text)
    lines[0].take_one_of(("wards",))
    wards = lines[0].take_number()
    lines[0].end()
    return need_house((_take_bodies(lines), wards))


def read_stand(house, text):
    """The stand of a house that a text tells."""
    need_house(house)
    lines = need_lines(text)
    stand = tuple([lines[0].take_sides() for _ in house[0]])
    lines[0].end()
    need_no_more(lines, 1)
    return need_stand(house, stand)


def read_rows(house, text):
    """The rows of choices that a text tells."""
    need_house(house)
    lines = need_lines(text)
    if text == "none":
        return ()
    rows = []
    # A line has one word at least, be it an empty one that is refused.
    while not lines[0].is_at_end():
        rows.append(lines[0].take_choices(house[1]))
    need_no_more(lines, 1)
    return need_rows(house, tuple(rows))
