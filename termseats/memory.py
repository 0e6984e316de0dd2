"""Memory: behind how many years the stand does not hang on the first one any more."""

from termseats.bands import ANY, Turns, is_no_past, is_past
from termseats.errors import BadPaper
from termseats.graphs import Reach, are_ascending, longest_rows, most_steps, ring_rows
from termseats.houses import common_term, is_stand, is_tuple, is_whole, is_word, need_band, need_house
from termseats.orders import both_ends, stand_above
from termseats.states import states_behind
from termseats.years import Stands


class PairSteps:
    """The years of a house within a band, from one pair state of unlike stands to another."""

    def __init__(self, house, band):
        self.given_house = house
        self.band = band
        self.years = common_term(house[0])
        self.turns = Turns(house[1], band, band != ANY)
        self.stands = Stands(house)

    def steps_from(self, pair):
        """A dict from the choices that may come, ascending, to the pair state behind them if its stands are unlike."""
        low, high, number, last, ages = pair
        lows = self.stands.by_choices(low, number)
        highs = self.stands.by_choices(high, number)
        later = (number + 1) % self.years
        return {
            choices: (lows[choices], highs[choices], later, past[0], past[1])
            for choices, past in self.turns.pasts(last, ages).items()
            if lows[choices] != highs[choices]}

    def is_pair(self, value):
        """Whether a value has the form of a pair state of unlike stands, whether it comes or not."""
        if not is_tuple(value, 5, 5):
            return False
        low, high, number, last, ages = value
        if not is_stand(self.given_house, low) or not is_stand(self.given_house, high):
            return False
        if low == high or not stand_above(high, low) or not is_whole(number, 0, self.years - 1):
            return False
        if is_no_past(last, ages):
            return True
        return self.turns.telling and is_past(self.given_house[1], self.band, last, ages)


def _first_pair(house):
    """The first pair state: that of both ends."""
    low, high = both_ends(house)
    return (low, high, 0, "", ())


def forgets_in(house, band):
    """In how many years a house forgets, None if it never does."""
    need_house(house)
    need_band(band)
    first = _first_pair(house)
    many = most_steps(Reach(PairSteps(house, band), first).table)
    # Behind the longest row to unlike stands there comes one year more.
    return many[first] + 1 if first in many else None


def memory_paper(house, band):
    """A paper on in how many years a house forgets."""
    need_house(house)
    need_band(band)
    first = _first_pair(house)
    reach = Reach(PairSteps(house, band), first)
    many = most_steps(reach.table)
    if first not in many:
        pair, ring = ring_rows(reach.table, many)
        return ("apart", reach.rows_to(pair), ring)
    rows = longest_rows(reach.table, many, first)
    heights = [(pair, steps + 1) for pair, steps in many.items()]
    return ("together", len(rows) + 1, rows, tuple(sorted(heights)))


def check_memory(house, band, paper):
    """N of a paper on memory, None if it is one of "apart"; BadPaper if it is not as told."""
    need_house(house)
    need_band(band)
    steps = PairSteps(house, band)
    first = _first_pair(house)
    if is_tuple(paper, 4, 4) and is_word(paper[0], ("together",)):
        if not _is_together(steps, first, paper):
            raise BadPaper("together")
        return paper[1]
    if is_tuple(paper, 3, 3) and is_word(paper[0], ("apart",)):
        if not _is_apart(steps, first, paper):
            raise BadPaper("apart")
        return None
    raise BadPaper("form")


def _is_apart(steps, first, paper):
    """Whether AHEAD leads to a pair state of unlike stands, and RING from there to it again."""
    _, ahead, ring = paper
    # Stands that are alike stay so: all pair states on the way are of unlike ones.
    told = states_behind(steps, first, ahead)
    if told is None:
        return False
    start = told[-1] if told else first
    round_again = states_behind(steps, start, ring)
    return bool(round_again) and round_again[-1] == start


def _is_together(steps, first, paper):
    """Whether ROWS lead to unlike stands, and HEIGHTS show that one more year never does."""
    _, many, rows, heights = paper
    told = states_behind(steps, first, rows)
    if told is None or not is_whole(many, len(told) + 1, len(told) + 1):
        return False
    return _are_heights(steps, many, heights) and _go_down(steps, first, heights)


def _are_heights(steps, many, heights):
    """Whether a value is an ascending tuple of pairs of a pair state and a height, no pair state twice."""
    if not isinstance(heights, tuple):
        return False
    for one in heights:
        if not is_tuple(one, 2, 2) or not steps.is_pair(one[0]) or not is_whole(one[1], 1, many):
            return False
    return are_ascending([pair for pair, _ in heights])


def _go_down(steps, first, heights):
    """Whether the first pair state has a height, and all steps lead to pair states with lower ones."""
    known = {pair: height for pair, height in heights}
    if first not in known:
        return False
    for pair, height in heights:
        for behind in steps.steps_from(pair).values():
            if behind not in known or known[behind] >= height:
                return False
    return True
