"""Wides: houses with groups of like seats of any number, and small ones that go the same way."""

from termseats.errors import BadNumber, BadStand, BadWide
from termseats.houses import (
    MOST_BODIES, MOST_ROUND, MOST_WARDS, common_term, is_seat, is_stand, is_tuple, is_whole)
from termseats.years import comes_up, need_rows, sources, stand_of

MOST_GROUPS = 4
MOST_MANY = 10 ** 30
MOST_SIZE = 9


def _is_group(value, many_bodies, wards):
    """Whether a value is a group of like seats in a wide house with so many bodies and wards."""
    if not is_tuple(value, 4, 4) or not is_seat(value[:3], many_bodies, wards):
        return False
    return is_whole(value[3], 1, MOST_MANY)


def need_wide(wide):
    """The wide house itself; BadWide for any other value."""
    if not is_tuple(wide, 2, 2):
        raise BadWide("form")
    bodies, wards = wide
    if not is_whole(wards, 0, MOST_WARDS):
        raise BadWide("wards")
    if not is_tuple(bodies, 1, MOST_BODIES):
        raise BadWide("bodies")
    for number, groups in enumerate(bodies):
        _need_groups(groups, number, len(bodies), wards)
    if common_term(bodies) > MOST_ROUND:
        raise BadWide("round")
    return wide


def _need_groups(groups, number, many_bodies, wards):
    """BadWide, with the place, for a body that is none or has a group that is none."""
    if not is_tuple(groups, 1, MOST_GROUPS):
        raise BadWide((number,))
    for place, group in enumerate(groups):
        if not _is_group(group, many_bodies, wards):
            raise BadWide((number, place))


def _need_wide_stand(wide, stand):
    """Nothing; the exception that is due for what is no wide house, or no stand of it."""
    need_wide(wide)
    # A stand has a letter for each group where that of a house has one for each seat.
    if not is_stand(wide, stand):
        raise BadStand(stand)


def _sizes(wide):
    """The sizes of a wide house; the argument is not looked at."""
    return tuple([tuple([group[3] for group in groups]) for groups in wide[0]])


def _side_of(lot, many):
    """The side that has more of the seats that a lot counts, many being those of each group, "=" if none has."""
    first = sum([size for sign, size in zip(lot, many) if sign == "a"])
    second = sum([size for sign, size in zip(lot, many) if sign == "b"])
    if first == second:
        return "="
    return "a" if first > second else "b"


def _all_lots(groups):
    """All lots of so many groups, ascending."""
    lots = [""]
    for _ in range(groups):
        lots = [lot + sign for lot in lots for sign in "-ab"]
    return lots


def _body_pattern(many):
    """The string of a body in the pattern, many being the seats of each group of it."""
    return "".join([_side_of(lot, many) for lot in _all_lots(len(many))])


def _pattern(wide):
    """The pattern of a wide house; the argument is not looked at."""
    return tuple([_body_pattern(many) for many in _sizes(wide)])


def sizes(wide):
    """The sizes of a wide house."""
    need_wide(wide)
    return _sizes(wide)


def pattern(wide):
    """The pattern of a wide house."""
    need_wide(wide)
    return _pattern(wide)


def _sides_of(stand, counted):
    """For each body the side that has more seats, "=" if none has."""
    return tuple([_side_of(letters, many) for letters, many in zip(stand, counted)])


def _resting_lot(groups, letters, number):
    """The lot of those groups of a body that do not come up in a year."""
    return "".join(["-" if comes_up(group, number) else letter for group, letter in zip(groups, letters)])


def _stand_behind(wide, stand, number, choices):
    """The stand behind a year."""
    bodies = wide[0]
    counted = _sizes(wide)
    resting = [_resting_lot(groups, letters, number) for groups, letters in zip(bodies, stand)]
    places = sources(bodies, stand, number, _sides_of(stand, counted), _sides_of(resting, counted))
    return stand_of(places, choices)


def wide_run(wide, stand, rows):
    """The stands behind the years from 0 on, by rows of choices."""
    _need_wide_stand(wide, stand)
    need_rows(wide, rows)
    stands = []
    now = stand
    for number, choices in enumerate(rows):
        now = _stand_behind(wide, now, number, choices)
        stands.append(now)
    return tuple(stands)


def wide_majorities(wide, stand):
    """For each body the side that has more seats, "=" if none has."""
    _need_wide_stand(wide, stand)
    return _sides_of(stand, _sizes(wide))


def _rows_of_sizes(groups, greatest):
    """All tuples of as many integers from 1 to the greatest as there are groups, ascending."""
    rows = [()]
    for _ in range(groups):
        rows = [row + (size,) for row in rows for size in range(1, greatest + 1)]
    return rows


def _goes_like(row, lots, told):
    """Whether by these sizes each lot has the side that is told for it."""
    # Most sizes go another way at one of the first lots, so the others are not worked out.
    for lot, side in zip(lots, told):
        if _side_of(lot, row) != side:
            return False
    return True


def _body_like_sizes(many, greatest):
    """The like sizes of a body, many being the seats of each group of it; None if there are none."""
    lots = _all_lots(len(many))
    told = _body_pattern(many)
    for row in sorted(_rows_of_sizes(len(many), greatest), key=lambda some: (sum(some), some)):
        if _goes_like(row, lots, told):
            return row
    return None


def like_sizes(wide, greatest):
    """The like sizes of each body up to a greatest integer, None in the place of a body that has none."""
    need_wide(wide)
    if not is_whole(greatest, 1, MOST_SIZE):
        raise BadNumber(greatest)
    return tuple([_body_like_sizes(many, greatest) for many in _sizes(wide)])


def _without_many(wide):
    """A wide house with seats in the places of its groups."""
    bodies, wards = wide
    return (tuple([tuple([group[:3] for group in groups]) for groups in bodies]), wards)


def go_alike(wide, other):
    """Whether two wide houses are alike but for how many seats their groups have, and have the same pattern."""
    need_wide(wide)
    need_wide(other)
    return _without_many(wide) == _without_many(other) and _pattern(wide) == _pattern(other)
