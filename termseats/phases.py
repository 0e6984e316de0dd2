"""Phases: how many seats come up in each year, and how they are spread as evenly as can be."""

from termseats.errors import BadPhases
from termseats.houses import common_term, is_tuple, is_whole, need_house


def _are_phases(house, value):
    """Whether a value is phases of a house."""
    bodies = house[0]
    if not is_tuple(value, len(bodies), len(bodies)):
        return False
    return all([_are_body_phases(body, row) for body, row in zip(bodies, value)])


def _are_body_phases(body, value):
    """Whether a value is a tuple with a phase for each seat of a body."""
    if not is_tuple(value, len(body), len(body)):
        return False
    return all([is_whole(phase, 0, seat[0] - 1) for seat, phase in zip(body, value)])


def _loads(house):
    """The loads of a house; the argument is not looked at."""
    seats = [seat for body in house[0] for seat in body]
    return tuple([
        sum([number % term == phase for term, phase, _ in seats]) for number in range(common_term(house[0]))])


def phases_of(house):
    """The phases of a house."""
    need_house(house)
    return tuple([tuple([seat[1] for seat in body]) for body in house[0]])


def with_phases(house, phases):
    """The house with these phases."""
    need_house(house)
    if not _are_phases(house, phases):
        raise BadPhases(phases)
    bodies, wards = house
    return (
        tuple([
            tuple([(seat[0], phase, seat[2]) for seat, phase in zip(body, row)])
            for body, row in zip(bodies, phases)]),
        wards)


def loads(house):
    """How many seats come up in each of the years of a round."""
    need_house(house)
    return _loads(house)


def busiest(house):
    """The greatest of the loads of a house, and the first year that has it."""
    need_house(house)
    row = _loads(house)
    most = max(row)
    return (most, row.index(most))


def _with_seat(ways, term):
    """For all loads that come by one more seat of a term the first phases by which they do.

    ways has these for the seats ahead, ascending. With the same loads the first phases stay first whatever comes
    behind them.
    """
    more = {}
    for row, phases in ways.items():
        for phase in range(term):
            behind = tuple([load + (number % term == phase) for number, load in enumerate(row)])
            # Phases are gone through ascending, so the first ones that lead to some loads stand there already.
            if behind not in more:
                more[behind] = phases + (phase,)
    return more


def _by_bodies(house, row):
    """The phases of all seats, one behind the other, as phases of the house."""
    phases = []
    at = 0
    for body in house[0]:
        phases.append(row[at:at + len(body)])
        at += len(body)
    return tuple(phases)


def spread(house):
    """The greatest of the loads of the house when it is spread, and the first phases by which it is."""
    need_house(house)
    ways = {(0,) * common_term(house[0]): ()}
    for body in house[0]:
        for seat in body:
            ways = _with_seat(ways, seat[0])
    most, row = min([(max(row), phases) for row, phases in ways.items()])
    return (most, _by_bodies(house, row))
