"""States: to which of them choices within a band lead."""

from termseats.bands import ANY, Turns, is_no_past, is_past
from termseats.graphs import Reach, are_ascending
from termseats.houses import common_term, is_stand, is_tuple, is_whole, need_band, need_stand
from termseats.years import Stands


def first_state(stand):
    """The first state of a stand."""
    return (stand, 0, "", ())


class Steps:
    """The years of a house within a band, from state to state, or from full state to full state."""

    def __init__(self, house, band, full):
        self.given_house = house
        self.band = band
        self.full = full
        self.years = common_term(house[0])
        self.turns = Turns(house[1], band, full or band != ANY)
        self.stands = Stands(house)

    def steps_from(self, state):
        """A dict from the choices that may come at a state, ascending, to the state behind them."""
        stand, number, last, ages = state
        stands = self.stands.by_choices(stand, number)
        later = (number + 1) % self.years
        pasts = self.turns.pasts(last, ages)
        return {choices: (stands[choices], later, past[0], past[1]) for choices, past in pasts.items()}

    def is_state(self, value):
        """Whether a value has the form of such a state, whether it comes or not."""
        if not is_tuple(value, 4, 4):
            return False
        stand, number, last, ages = value
        if not is_stand(self.given_house, stand) or not is_whole(number, 0, self.years - 1):
            return False
        if is_no_past(last, ages):
            # Without wards this is a full state, too.
            return not self.full or self.given_house[1] == 0
        return self.turns.telling and is_past(self.given_house[1], self.band, last, ages)


def states_behind(steps, state, rows):
    """The states behind each year of rows from a state on; None for what is no tuple of choices that may come."""
    if not isinstance(rows, tuple):
        return None
    told = []
    for choices in rows:
        leads = steps.steps_from(state)
        if not isinstance(choices, str) or choices not in leads:
            return None
        state = leads[choices]
        told.append(state)
    return told


def is_table(steps, first, value):
    """Whether a value is an ascending tuple of states, the first one among them."""
    if not isinstance(value, tuple) or not all([steps.is_state(state) for state in value]):
        return False
    return are_ascending(value) and first in value


def reach_of(house, stand, band):
    """The states to which choices within the band lead; TooGreat of too many."""
    return Reach(Steps(house, band, False), first_state(stand))


def states(house, stand, band):
    """All states to which choices within the band lead, the first one too."""
    need_stand(house, stand)
    need_band(band)
    return tuple(sorted(list(reach_of(house, stand, band).table)))


def nexts(house, stand, band, state):
    """The pairs of choices that may come at a state, and the state behind; None for what is no state that comes."""
    need_stand(house, stand)
    need_band(band)
    table = reach_of(house, stand, band).table
    if not Steps(house, band, False).is_state(state) or state not in table:
        return None
    return tuple(table[state].items())
