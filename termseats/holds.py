"""Holds: which seats keep a majority whatever the wards tell, and which wards bring one about."""

from itertools import combinations

from termseats.errors import BadSeats, BadWards
from termseats.graphs import are_ascending
from termseats.houses import common_term, is_tuple, is_whole, need_body, need_house, need_stand
from termseats.years import side_with_more, stand_behind


def _is_seat_of(house, value):
    """Whether a value is a pair of the number of a body and that of one of its seats."""
    bodies = house[0]
    if not is_tuple(value, 2, 2) or not is_whole(value[0], 0, len(bodies) - 1):
        return False
    return is_whole(value[1], 0, len(bodies[value[0]]) - 1)


def _need_seats(house, seats):
    """The seats themselves; BadSeats for any value that is no seats of the house."""
    if not isinstance(seats, tuple) or not all([_is_seat_of(house, seat) for seat in seats]):
        raise BadSeats(seats)
    if not are_ascending(seats):
        raise BadSeats(seats)
    return seats


def _need_wards(house, wards):
    """The wards themselves; BadWards for any value that is no wards of the house."""
    if not isinstance(wards, tuple) or not all([is_whole(ward, 0, house[1] - 1) for ward in wards]):
        raise BadWards(wards)
    if not are_ascending(wards):
        raise BadWards(wards)
    return wards


def _with_a(house, seats):
    """The stand in which the side a has just these seats."""
    return tuple([
        "".join(["a" if (number, place) in seats else "b" for place in range(len(body))])
        for number, body in enumerate(house[0])])


def _telling_a(house, wards):
    """The choices in which just these wards tell "a"."""
    return "".join(["a" if ward in wards else "b" for ward in range(house[1])])


def _from_year(house, stand, choices, body):
    """From which year on "a" has more than half of the seats of a body, by these choices for ever; None if from none.

    It has them behind each year from that number on.
    """
    years = common_term(house[0])
    seen = {}
    since = 0
    number = 0
    while (stand, number % years) not in seen:
        seen[(stand, number % years)] = number
        stand = stand_behind(house, stand, number, choices)
        number += 1
        if side_with_more(stand[body]) != "a":
            since = number
    # The years from the one with that stand on come again and again.
    return since if since <= seen[(stand, number % years)] else None


def _has_all(things, some):
    """Whether some things are all among others."""
    return all([thing in things for thing in some])


def _least_of(things, does):
    """The ascending tuple of those of the things that do what they are to do, none of which can be left out.

    What some of them do, they do with others beside them, too.
    """
    found = []
    for many in range(len(things) + 1):
        for some in combinations(things, many):
            if not any([_has_all(some, least) for least in found]) and does(some):
                found.append(some)
    return tuple(sorted(found))


def _do_hold(house, seats, body):
    """Whether seats hold a body; the arguments are not looked at."""
    return _from_year(house, _with_a(house, seats), "b" * house[1], body) == 0


def stand_with(house, seats):
    """The stand in which the side a has just these seats."""
    need_house(house)
    _need_seats(house, seats)
    return _with_a(house, seats)


def is_hold(house, seats, body):
    """Whether seats hold a body."""
    need_house(house)
    _need_seats(house, seats)
    need_body(house, body)
    return _do_hold(house, seats, body)


def least_holds(house, body):
    """All least seats that hold a body."""
    need_house(house)
    need_body(house, body)
    every = [(number, place) for number, row in enumerate(house[0]) for place in range(len(row))]
    return _least_of(every, lambda seats: _do_hold(house, seats, body))


def surely_from(house, stand, wards, body):
    """From which year on the side a has a body surely by wards, None if from none."""
    need_stand(house, stand)
    _need_wards(house, wards)
    need_body(house, body)
    return _from_year(house, stand, _telling_a(house, wards), body)


def least_helps(house, stand, body):
    """All least wards by which the side a has a body surely from some year on."""
    need_stand(house, stand)
    need_body(house, body)
    every = list(range(house[1]))
    return _least_of(every, lambda wards: _from_year(house, stand, _telling_a(house, wards), body) is not None)
