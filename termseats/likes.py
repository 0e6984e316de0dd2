"""Likes: whether houses beside one another have the same majorities, and the bodies on which one hangs."""

from math import lcm

from termseats.bands import ANY, Turns
from termseats.errors import BadHouse, TooGreat
from termseats.graphs import MOST_STATES, rows_by
from termseats.houses import common_term, need_band, need_body, need_house, need_stand
from termseats.years import Stands


def _need_two(house, stand, other, far, band):
    """Nothing; the exception that is due if two houses are not asked about rightly."""
    need_stand(house, stand)
    need_stand(other, far)
    if len(house[0]) != len(other[0]) or house[1] != other[1]:
        raise BadHouse("unlike")
    need_band(band)


class Parting:
    """The years of two houses beside one another, from a pair of states up to the first with unlike majorities.

    A pair of states is a tuple of both stands, the year, LAST and AGES. TooGreat of too many pairs.
    """

    def __init__(self, house, stand, other, far, band):
        # The rest of a year by this tells both YEARS.
        self.years = lcm(common_term(house[0]), common_term(other[0]))
        self.turns = Turns(house[1], band, band != ANY)
        self.stands = Stands(house)
        self.fars = Stands(other)
        first = (stand, far, 0, "", ())
        self.ways = {first: None}
        # As few choices as can be behind which the majorities are unlike, None if they never are.
        self.rows = None
        level = [first]
        while level:
            level = self._level_behind(level)

    def _level_behind(self, level):
        """The pairs to which a year leads from these for the first time, none if the majorities are unlike there."""
        fresh = []
        for pair in level:
            for choices, behind in self._steps_from(pair).items():
                if self.stands.with_more(behind[0]) != self.fars.with_more(behind[1]):
                    self.rows = rows_by(self.ways, (pair, choices))
                    return []
                if behind not in self.ways:
                    self.ways[behind] = (pair, choices)
                    fresh.append(behind)
        # Only now it is sure that what is told has more choices than lead to these pairs.
        if len(self.ways) > MOST_STATES:
            raise TooGreat(MOST_STATES)
        return fresh

    def _steps_from(self, pair):
        """A dict from the choices that may come, ascending, to the pair of states behind them."""
        stand, far, number, last, ages = pair
        stands = self.stands.by_choices(stand, number)
        fars = self.fars.by_choices(far, number)
        later = (number + 1) % self.years
        pasts = self.turns.pasts(last, ages)
        return {choices: (stands[choices], fars[choices], later, past[0], past[1]) for choices, past in pasts.items()}


def are_alike(house, stand, other, far, band):
    """Whether two houses, each from a stand, have the same majorities behind each year by any choices."""
    _need_two(house, stand, other, far, band)
    return Parting(house, stand, other, far, band).rows is None


def parting_rows(house, stand, other, far, band):
    """As few choices as can be behind which two houses do not have the same majorities, None if they always have."""
    _need_two(house, stand, other, far, band)
    return Parting(house, stand, other, far, band).rows


def _bodies_under(house, body):
    """The ascending tuple of the bodies on which one hangs; the arguments are not looked at."""
    found = {body: True}
    waiting = [body]
    while waiting:
        number = waiting.pop()
        for seat in house[0][number]:
            way = seat[2]
            # Such a way is that of "body" or "rest", and has the number of a body.
            if len(way) == 3 and way[1] not in found:
                found[way[1]] = True
                waiting.append(way[1])
    return tuple(sorted(list(found)))


def _renumbered(seat, places):
    """A seat whose way has for the number of a body that which it has in places."""
    term, phase, way = seat
    if len(way) < 3:
        return seat
    return (term, phase, (way[0], places[way[1]], way[2]))


def hangs_on(house, body):
    """The bodies on which one hangs."""
    need_house(house)
    need_body(house, body)
    return _bodies_under(house, body)


def core(house, body):
    """The core of a house for a body, and the number of the body there."""
    need_house(house)
    need_body(house, body)
    bodies, wards = house
    under = _bodies_under(house, body)
    places = {number: place for place, number in enumerate(under)}
    left = tuple([tuple([_renumbered(seat, places) for seat in bodies[number]]) for number in under])
    return ((left, wards), places[body])


def core_stand(house, stand, body):
    """The stand that the core of a house for a body has where the house has a stand."""
    need_stand(house, stand)
    need_body(house, body)
    return tuple([stand[number] for number in _bodies_under(house, body)])
