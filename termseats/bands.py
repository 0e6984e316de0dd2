"""Bands: which choices may come behind others."""

from termseats.houses import is_sides, is_tuple, is_whole

# The band within which any choices may come in any year.
ANY = (None, 1)


def all_choices(wards):
    """All choices of so many wards, ascending."""
    rows = [""]
    for _ in range(wards):
        rows = [row + side for row in rows for side in "ab"]
    return rows


def is_past(wards, band, last, ages):
    """Whether values have the form of LAST and AGES of a full state."""
    if not is_sides(last, wards) or not is_tuple(ages, wards, wards):
        return False
    return all([is_whole(age, 0, band[1] - 1) for age in ages])


def is_no_past(last, ages):
    """Whether values are LAST "" and AGES ()."""
    return is_sides(last, 0) and is_tuple(ages, 0, 0)


def turned(last, choices):
    """How many wards tell otherwise by choices than by those of the year ahead."""
    return sum([one != other for one, other in zip(last, choices)])


def ages_behind(band, last, ages, choices):
    """The AGES behind a year with choices, None if these may not come."""
    turn, gap = band
    if turn is not None and turned(last, choices) > turn:
        return None
    behind = []
    for told, age, tells in zip(last, ages, choices):
        if tells == told:
            behind.append(max(0, age - 1))
        elif age > 0:
            return None
        else:
            behind.append(gap - 1)
    return tuple(behind)


class Turns:
    """Which choices may come within a band, and the LAST and AGES behind them.

    Without telling, LAST is "" and AGES are () in all years.
    """

    def __init__(self, wards, band, telling):
        self.band = band
        self.telling = telling
        self.rows = all_choices(wards)
        self.known = {}

    def pasts(self, last, ages):
        """A dict from the choices that may come, ascending, to the pair of LAST and AGES behind them."""
        key = (last, ages)
        if key not in self.known:
            self.known[key] = self._worked_out(last, ages)
        return self.known[key]

    def _worked_out(self, last, ages):
        if not self.telling:
            return {choices: ("", ()) for choices in self.rows}
        if last == "":
            return {choices: (choices, (0,) * len(choices)) for choices in self.rows}
        behind = {choices: ages_behind(self.band, last, ages, choices) for choices in self.rows}
        return {choices: (choices, behind[choices]) for choices in self.rows if behind[choices] is not None}
