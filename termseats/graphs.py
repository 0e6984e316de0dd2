"""States of any sort that lead to one another by choices.

A table of them is a dict from each state to a dict: from the choices that may come there to the state behind them.
"""

from termseats.errors import TooGreat

MOST_STATES = 20000


def are_ascending(values):
    """Whether each of some values that can be ordered is greater than the one before it."""
    return all([one < other for one, other in zip(values, values[1:])])


def rows_by(ways, way):
    """The choices of all years up to a way: a pair of a state and choices there, None without any.

    ways is a dict from each state to such a pair that leads to it, None for the first one.
    """
    rows = []
    while way is not None:
        state, choices = way
        rows.append(choices)
        way = ways[state]
    return tuple(rows[::-1])


class Reach:
    """The states to which the first one leads, those behind fewer years ahead of those behind more.

    steps has a method steps_from that gives the dict of a state. TooGreat of too many states.
    """

    def __init__(self, steps, first):
        self.table = {}
        self.ways = {first: None}
        level = [first]
        while level:
            level = self._level_behind(steps, level)

    def _level_behind(self, steps, level):
        """The states to which a year leads from these for the first time."""
        fresh = []
        for state in level:
            leads = steps.steps_from(state)
            self.table[state] = leads
            for choices, behind in leads.items():
                if behind not in self.ways:
                    self.ways[behind] = (state, choices)
                    fresh.append(behind)
            if len(self.ways) > MOST_STATES:
                raise TooGreat(MOST_STATES)
        return fresh

    def rows_to(self, state):
        """As few choices as can be that lead from the first state to this one, as a tuple."""
        return rows_by(self.ways, self.ways[state])


def most_steps(table):
    """How many steps can be made from each state of a table, for the states from which they come to an end."""
    left = {state: len(leads) for state, leads in table.items()}
    ahead = {state: [] for state in table}
    for state, leads in table.items():
        for behind in leads.values():
            ahead[behind].append(state)
    many = {}
    made = 0
    ready = [state for state, leads in table.items() if not leads]
    while ready:
        fresh = []
        for behind in ready:
            many[behind] = made
            for state in ahead[behind]:
                left[state] -= 1
                # A state is ready with the last of those behind it, from which the most steps can be made.
                if left[state] == 0:
                    fresh.append(state)
        ready = fresh
        made += 1
    return many


def longest_rows(table, many, state):
    """Choices by which as many steps are made from a state as can be, many being what most_steps tells."""
    rows = []
    for left in range(many[state] - 1, -1, -1):
        leads = table[state]
        choices = [row for row in leads if many[leads[row]] == left][0]
        rows.append(choices)
        state = leads[choices]
    return tuple(rows)


def ring_rows(table, many):
    """A state, and choices that lead from it to itself, many being what most_steps tells of not all states."""
    state = [one for one in table if one not in many][0]
    rows = []
    seen = {}
    while state not in seen:
        seen[state] = len(rows)
        # From a state whose steps come to no end, one of them leads to another such state.
        leads = table[state]
        choices = [row for row in leads if leads[row] not in many][0]
        rows.append(choices)
        state = leads[choices]
    return state, tuple(rows[seen[state]:])
