"""Orders: which stands and choices are above others, and what is as it would be for the other side."""

from termseats.errors import BadChoices
from termseats.houses import need_house, need_stand
from termseats.years import need_rows

MIRRORED = {"a": "b", "b": "a", "kept": "kept"}


def letters_above(letters, others):
    """Whether the side a has in some letters each place that it has in as many others."""
    return all([letter == "a" or other == "b" for letter, other in zip(letters, others)])


def stand_above(stand, other):
    """Whether a stand is above another one; the arguments are not looked at."""
    return all([letters_above(letters, others) for letters, others in zip(stand, other)])


def both_ends(house):
    """The stand in which the side b has all seats, and that in which a has; the argument is not looked at."""
    return (tuple(["b" * len(body) for body in house[0]]), tuple(["a" * len(body) for body in house[0]]))


def is_above(house, stand, other):
    """Whether a stand is above another one."""
    need_stand(house, stand)
    need_stand(house, other)
    return stand_above(stand, other)


def are_above(house, rows, others):
    """Whether rows of choices are above as many others."""
    need_house(house)
    need_rows(house, rows)
    need_rows(house, others)
    if len(rows) != len(others):
        raise BadChoices(None)
    return all([letters_above(choices, other) for choices, other in zip(rows, others)])


def _in_one_at_least(stand, other, side):
    """The stand in which a side has just the seats that it has in one of two stands at least."""
    far = MIRRORED[side]
    return tuple([
        "".join([side if side in pair else far for pair in zip(letters, others)])
        for letters, others in zip(stand, other)])


def lower(house, stand, other):
    """The stand in which the side a has just the seats that it has in both stands."""
    need_stand(house, stand)
    need_stand(house, other)
    return _in_one_at_least(stand, other, "b")


def upper(house, stand, other):
    """The stand in which the side a has just the seats that it has in one of both stands at least."""
    need_stand(house, stand)
    need_stand(house, other)
    return _in_one_at_least(stand, other, "a")


def ends(house):
    """The stand in which the side b has all seats, and that in which a has."""
    need_house(house)
    return both_ends(house)


def _mirrored_seat(seat):
    """A seat with its TIE, if it has one, for the other side."""
    term, phase, way = seat
    if len(way) < 3:
        return seat
    return (term, phase, (way[0], way[1], MIRRORED[way[2]]))


def mirrored(house):
    """The house with each TIE for the other side."""
    need_house(house)
    bodies, wards = house
    return (tuple([tuple([_mirrored_seat(seat) for seat in body]) for body in bodies]), wards)


def mirrored_stand(house, stand):
    """The stand in which each seat has the other side."""
    need_stand(house, stand)
    return tuple(["".join([MIRRORED[side] for side in letters]) for letters in stand])
