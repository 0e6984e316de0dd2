"""Takes: how cheaply a body can be taken over."""

from termseats.bands import turned
from termseats.errors import BadPaper, TooGreat
from termseats.graphs import MOST_STATES, are_ascending, rows_by
from termseats.houses import is_tuple, is_whole, is_word, need_band, need_body, need_stand
from termseats.states import Steps, is_table, states_behind
from termseats.years import need_choices, side_with_more

MOST_PRICE = 10 ** 9


def _need_arguments(house, stand, last, band, body):
    """Nothing; the exception that is due if what is asked is not asked rightly."""
    need_stand(house, stand)
    need_choices(house, last)
    need_band(band)
    need_body(house, body)


def _first_full(house, stand, last):
    """The first full state: no ward has turned of late."""
    return (stand, 0, last, (0,) * house[1])


def _is_taken(state, body):
    """Whether the side a has more than half of the seats of a body."""
    return side_with_more(state[0][body]) == "a"


class Search:
    """The full states that come without the body being taken ahead of them, those that come cheaper first.

    It ends with the least cost of a row that takes the body, and such a row. TooGreat of too many states.
    """

    def __init__(self, steps, first, body):
        self.steps = steps
        self.body = body
        self.costs = {}
        self.ways = {}
        # Both stay as they are if no row takes the body.
        self.least = None
        self.rows = ()
        # For each cost the states that come at it, with the years that lead to them, to be looked at.
        self.waiting = {0: [(first, None)]}
        while self.waiting and self.least is None:
            self._look_at(min(list(self.waiting)))

    def _look_at(self, cost):
        """Look at the states that wait at a cost, the least one."""
        level = self.waiting.pop(cost)
        for state, way in level:
            # The first state takes nothing before a year has led to it.
            if way is not None and _is_taken(state, self.body):
                self.least = cost
                self.rows = rows_by(self.ways, way)
                return
            if state not in self.costs:
                self.costs[state] = cost
                self.ways[state] = way
                self._let_wait_behind(state, cost)

    def _let_wait_behind(self, state, cost):
        """Let the states behind one wait at what they cost, which may be as little as this one."""
        if len(self.costs) > MOST_STATES:
            raise TooGreat(MOST_STATES)
        for choices, behind in self.steps.steps_from(state).items():
            price = cost + turned(state[2], choices)
            self.waiting.setdefault(price, []).append((behind, (state, choices)))


def cheapest(house, stand, last, band, body):
    """The least cost of a row that takes a body, None if no row does."""
    _need_arguments(house, stand, last, band, body)
    return Search(Steps(house, band, True), _first_full(house, stand, last), body).least


def take_paper(house, stand, last, band, body):
    """A paper on the least cost of a row that takes a body."""
    _need_arguments(house, stand, last, band, body)
    search = Search(Steps(house, band, True), _first_full(house, stand, last), body)
    if search.least is None:
        return ("never", tuple(sorted(list(search.costs))))
    # What is left of the least cost at a state is the least that it still costs from there.
    prices = [(state, search.least - cost) for state, cost in search.costs.items() if cost < search.least]
    return ("cost", search.least, search.rows, tuple(sorted(prices)))


def check_take(house, stand, last, band, body, paper):
    """COST of a paper on taking a body, None if it is one of "never"; BadPaper if it is not as told."""
    _need_arguments(house, stand, last, band, body)
    steps = Steps(house, band, True)
    first = _first_full(house, stand, last)
    if is_tuple(paper, 4, 4) and is_word(paper[0], ("cost",)):
        if not _is_cost(steps, first, body, paper):
            raise BadPaper("cost")
        return paper[1]
    if is_tuple(paper, 2, 2) and is_word(paper[0], ("never",)):
        if not is_table(steps, first, paper[1]) or not _is_never_taken(steps, paper[1], body):
            raise BadPaper("never")
        return None
    raise BadPaper("form")


def _is_never_taken(steps, table, body):
    """Whether full states lead to one another alone, and nowhere to one in which the body is taken."""
    known = {state: True for state in table}
    for state in table:
        for behind in steps.steps_from(state).values():
            if behind not in known or _is_taken(behind, body):
                return False
    return True


def _is_cost(steps, first, body, paper):
    """Whether ROWS take the body and cost COST, and PRICES show that no row costs less."""
    _, cost, rows, prices = paper
    told = states_behind(steps, first, rows)
    if not told or not _is_taken(told[-1], body):
        return False
    paid = sum([turned(state[2], choices) for state, choices in zip([first] + told, rows)])
    if not is_whole(cost, paid, paid) or not _are_prices(steps, prices):
        return False
    known = {state: price for state, price in prices}
    return known.get(first, 0) >= cost and _are_low(steps, known, body)


def _are_prices(steps, prices):
    """Whether a value is an ascending tuple of pairs of a full state and a price, no state twice."""
    if not isinstance(prices, tuple):
        return False
    for one in prices:
        if not is_tuple(one, 2, 2) or not steps.is_state(one[0]) or not is_whole(one[1], 1, MOST_PRICE):
            return False
    return are_ascending([state for state, _ in prices])


def _are_low(steps, known, body):
    """Whether no year leads from a price to one that is lower by more than the year costs."""
    for state, price in known.items():
        for choices, behind in steps.steps_from(state).items():
            left = 0 if _is_taken(behind, body) else known.get(behind, 0)
            if price > turned(state[2], choices) + left:
                return False
    return True
