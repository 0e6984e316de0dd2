"""Years: what comes up in them, and the stands behind them."""

from termseats.bands import all_choices
from termseats.errors import BadChoices, BadNumber
from termseats.houses import common_term, is_sides, is_whole, need_house, need_stand

SIDES = "ab"
LAST_YEAR = 10 ** 30
MOST_ROWS = 400


def need_number(number):
    """The number of a year itself; BadNumber for any other value."""
    if not is_whole(number, 0, LAST_YEAR):
        raise BadNumber(number)
    return number


def need_choices(house, choices):
    """The choices themselves; BadChoices(0) for any value that is no choices of the house."""
    if not is_sides(choices, house[1]):
        raise BadChoices(0)
    return choices


def need_rows(house, rows):
    """The rows themselves; BadChoices for any value that is no rows of choices of the house."""
    if not isinstance(rows, (list, tuple)) or len(rows) > MOST_ROWS:
        raise BadChoices(None)
    for place, choices in enumerate(rows):
        if not is_sides(choices, house[1]):
            raise BadChoices(place)
    return rows


def comes_up(seat, number):
    """Whether a seat, or a group of like seats, comes up in the year with a number."""
    return number % seat[0] == seat[1]


def side_with_more(letters):
    """The side that has more of some letters, "=" if none has."""
    ahead = letters.count("a") - letters.count("b")
    if ahead == 0:
        return "="
    return "a" if ahead > 0 else "b"


def _resting(body, letters, number):
    """The letters of those seats of a body that do not come up in a year."""
    return [letter for seat, letter in zip(body, letters) if not comes_up(seat, number)]


def _source(way, side, wholes, rests):
    """The place in SIDES and then the choices of the side with which a seat that has a side is filled.

    wholes and rests tell for each body who has more of all seats of it, and of those that rest.
    """
    if way[0] == "kept":
        return SIDES.find(side)
    if way[0] == "ward":
        return len(SIDES) + way[1]
    word, body, tie = way
    more = wholes[body] if word == "body" else rests[body]
    if more != "=":
        return SIDES.find(more)
    return SIDES.find(side if tie == "kept" else tie)


def sources(bodies, stand, number, wholes, rests):
    """For each body the places in SIDES and then the choices of its letters behind a year.

    wholes and rests tell for each body who has more of all seats of it, and of those that do not come up.
    """
    places = []
    for body, letters in zip(bodies, stand):
        places.append([
            _source(seat[2], side, wholes, rests) if comes_up(seat, number) else SIDES.find(side)
            for seat, side in zip(body, letters)])
    return places


def _house_sources(house, stand, number):
    """The places of all letters of a house behind a year."""
    bodies = house[0]
    # Seats that come up are filled all at once, so who has more is counted ahead of all of them.
    wholes = [side_with_more(letters) for letters in stand]
    rests = [side_with_more(_resting(body, letters, number)) for body, letters in zip(bodies, stand)]
    return sources(bodies, stand, number, wholes, rests)


def stand_of(places, choices):
    """The stand whose letters stand in these places in SIDES and then the choices."""
    sides = SIDES + choices
    return tuple(["".join([sides[at] for at in row]) for row in places])


def stand_behind(house, stand, number, choices):
    """The stand behind a year; the arguments are not looked at."""
    return stand_of(_house_sources(house, stand, number), choices)


def sides_with_more(stand):
    """For each body the side that has more seats, "=" if none has; the argument is not looked at."""
    return tuple([side_with_more(letters) for letters in stand])


class Stands:
    """The stands behind the years of a house, and the majorities in them, each of which is worked out once."""

    def __init__(self, house):
        self.given_house = house
        self.years = common_term(house[0])
        self.rows = all_choices(house[1])
        self.known = {}
        self.known_more = {}

    def by_choices(self, stand, number):
        """A dict from all choices to the stand behind a year."""
        key = (stand, number % self.years)
        if key not in self.known:
            places = _house_sources(self.given_house, stand, number)
            self.known[key] = {choices: stand_of(places, choices) for choices in self.rows}
        return self.known[key]

    def with_more(self, stand):
        """For each body the side that has more seats, "=" if none has."""
        if stand not in self.known_more:
            self.known_more[stand] = sides_with_more(stand)
        return self.known_more[stand]


def year(house, stand, number, choices):
    """The stand behind the year with a number, by choices, from the stand ahead of it."""
    need_stand(house, stand)
    need_number(number)
    need_choices(house, choices)
    return stand_behind(house, stand, number, choices)


def run(house, stand, rows):
    """The stands behind the years from 0 on, by rows of choices."""
    need_stand(house, stand)
    need_rows(house, rows)
    stands = []
    now = stand
    for number, choices in enumerate(rows):
        now = stand_behind(house, now, number, choices)
        stands.append(now)
    return tuple(stands)


def majorities(house, stand):
    """For each body the side that has more seats, "=" if none has."""
    need_stand(house, stand)
    return sides_with_more(stand)


def due_seats(house, number):
    """The pairs of a body and a seat of it that comes up in the year with a number."""
    need_house(house)
    need_number(number)
    due = []
    for at, body in enumerate(house[0]):
        for place, seat in enumerate(body):
            if comes_up(seat, number):
                due.append((at, place))
    return tuple(due)
