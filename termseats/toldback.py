"""Told back: which choices agree with the majorities that were seen."""

from termseats.bands import all_choices
from termseats.errors import BadSeen, TooGreat
from termseats.graphs import MOST_STATES
from termseats.houses import need_band, need_house, need_stand
from termseats.states import Steps, first_state

MOST_SEEN = 40
# So many states behind a year are looked at if more stands than one lead there.
MOST_AT_ONCE = 50000
SIGNS = "ab=?"


def _is_seen(house, value):
    """Whether a value is a string with a sign for each body of the house."""
    if not isinstance(value, str) or len(value) != len(house[0]):
        return False
    return all([sign in SIGNS for sign in value])


def _need_seen(house, seen):
    """Nothing; BadSeen for any value that cannot have been seen of the house."""
    if not isinstance(seen, (list, tuple)) or len(seen) > MOST_SEEN:
        raise BadSeen(None)
    for place, signs in enumerate(seen):
        if not _is_seen(house, signs):
            raise BadSeen(place)


def _need_telling(house, stand, band, seen):
    """Nothing; the exception that is due if what is to be told back is not asked rightly."""
    need_stand(house, stand)
    need_band(band)
    _need_seen(house, seen)


class Agreeing:
    """The years of a house within a band, in each of which all that was seen is so.

    A level is a dict from the states behind a year to a mask: which of some stands lead there by rows that agree so
    far, the first one being the lowest bit.
    """

    def __init__(self, house, band, seen):
        self.steps = Steps(house, band, False)
        self.seen = seen
        self.known = {}

    def steps_in(self, number, state):
        """A dict from the choices that may come in a year, ascending, to the state behind, if it is as was seen."""
        leads = self.steps.steps_from(state)
        return {choices: behind for choices, behind in leads.items() if self._is_so(self.seen[number], behind[0])}

    def _is_so(self, signs, stand):
        """Whether what was seen is so in a stand."""
        key = (signs, stand)
        if key not in self.known:
            more = self.steps.stands.with_more(stand)
            self.known[key] = all([sign == "?" or sign == side for sign, side in zip(signs, more)])
        return self.known[key]

    def levels_from(self, stands):
        """The level ahead of all years, in which some stands come, and that behind each year.

        TooGreat if one of the stands by itself leads to too many states. None if more of them lead to too many at once.
        """
        level = {first_state(stand): 1 << at for at, stand in enumerate(stands)}
        levels = [level]
        for number in range(len(self.seen)):
            level = self._level_behind(number, level)
            if len(stands) > 1 and len(level) > MOST_AT_ONCE:
                return None
            _need_few(level, len(stands))
            levels.append(level)
        return levels

    def _level_behind(self, number, level):
        fresh = {}
        for state, mask in level.items():
            for behind in self.steps_in(number, state).values():
                fresh[behind] = fresh.get(behind, 0) | mask
        return fresh

    def good_levels(self, levels):
        """For each level a dict with those of its states from which some choices agree up to the end."""
        good = {state: True for state in levels[-1]}
        backward = [good]
        for number in range(len(self.seen) - 1, -1, -1):
            good = self._good_ahead(number, levels[number], good)
            backward.append(good)
        return backward[::-1]

    def _good_ahead(self, number, level, good):
        ahead = {}
        for state in level:
            if any([behind in good for behind in self.steps_in(number, state).values()]):
                ahead[state] = True
        return ahead


def _need_few(level, many_stands):
    """Nothing; TooGreat if one of so many stands by itself leads to too many of the states of a level."""
    if len(level) <= MOST_STATES:
        return
    many = {}
    for mask in level.values():
        many[mask] = many.get(mask, 0) + 1
    for at in range(many_stands):
        if sum([number for mask, number in many.items() if (mask >> at) & 1]) > MOST_STATES:
            raise TooGreat(MOST_STATES)


def _one_letter(letters):
    """The letter that all of some letters are, "?" if they are not the same."""
    return letters[0] if letters.count(letters[0]) == len(letters) else "?"


def _firm_letters(agreeing, number, level, behind, wards):
    """What each of so many wards tells in a year by all choices that lead from states of a level to the one behind."""
    told = {}
    for state in level:
        for choices, later in agreeing.steps_in(number, state).items():
            if later in behind:
                told[choices] = True
    return "".join([_one_letter([row[ward] for row in told]) for ward in range(wards)])


def firm(house, stand, band, seen):
    """For each year what each ward tells by all rows that agree, None if none does."""
    _need_telling(house, stand, band, seen)
    agreeing = Agreeing(house, band, seen)
    levels = agreeing.levels_from([stand])
    if not levels[-1]:
        return None
    good = agreeing.good_levels(levels)
    return tuple([
        _firm_letters(agreeing, number, good[number], good[number + 1], house[1]) for number in range(len(seen))])


def first_false(house, stand, band, seen):
    """The number of the first year such that no row agrees with what was seen up to it, None without such a year."""
    _need_telling(house, stand, band, seen)
    levels = Agreeing(house, band, seen).levels_from([stand])
    for number in range(len(seen)):
        if not levels[number + 1]:
            return number
    return None


def many_rows(house, stand, band, seen):
    """How many rows of choices agree."""
    _need_telling(house, stand, band, seen)
    agreeing = Agreeing(house, band, seen)
    levels = agreeing.levels_from([stand])
    many = {first_state(stand): 1}
    for number in range(len(seen)):
        behind = {state: 0 for state in levels[number + 1]}
        for state, rows in many.items():
            for later in agreeing.steps_in(number, state).values():
                behind[later] += rows
        many = behind
    return sum(list(many.values()))


def least_row(house, stand, band, seen):
    """The least row of choices that agrees, None if none does."""
    _need_telling(house, stand, band, seen)
    agreeing = Agreeing(house, band, seen)
    levels = agreeing.levels_from([stand])
    if not levels[-1]:
        return None
    good = agreeing.good_levels(levels)
    row = []
    state = first_state(stand)
    for number in range(len(seen)):
        leads = agreeing.steps_in(number, state)
        choices = [one for one in leads if leads[one] in good[number + 1]][0]
        row.append(choices)
        state = leads[choices]
    return tuple(row)


def _all_stands(house):
    """All stands of a house, ascending."""
    stands = [()]
    for body in house[0]:
        stands = [stand + (letters,) for stand in stands for letters in all_choices(len(body))]
    return stands


def _begins_among(agreeing, stands):
    """Those of some stands, in their order, from which some row agrees; TooGreat if it is due for one of them."""
    levels = agreeing.levels_from(stands)
    if levels is None:
        half = len(stands) // 2
        return _begins_among(agreeing, stands[:half]) + _begins_among(agreeing, stands[half:])
    good = agreeing.good_levels(levels)[0]
    return [stand for stand in stands if first_state(stand) in good]


def begins(house, band, seen):
    """All stands from which some row agrees."""
    need_house(house)
    need_band(band)
    _need_seen(house, seen)
    return tuple(_begins_among(Agreeing(house, band, seen), _all_stands(house)))
