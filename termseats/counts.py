"""Counts: how many seats of a body the side a can have at least and at most."""

from termseats.errors import BadNumber, BadPaper
from termseats.houses import MOST_SEATS, is_tuple, is_whole, need_question
from termseats.states import Steps, first_state, is_table, reach_of, states_behind


def _seats_of_a(state, body):
    """How many seats of a body the side a has in a state."""
    return state[0][body].count("a")


def _counts(reach, body):
    """A dict from the numbers of seats that the side a has behind some year to as few choices that lead there."""
    rows = {}
    # States that fewer choices reach stand first in the table.
    for state, leads in reach.table.items():
        for choices, behind in leads.items():
            many = _seats_of_a(behind, body)
            if many not in rows:
                rows[many] = reach.rows_to(state) + (choices,)
    return rows


def bounds(house, stand, band, body):
    """The least and the greatest number of seats of a body that the side a has at the end of some year."""
    need_question(house, stand, band, body)
    rows = _counts(reach_of(house, stand, band), body)
    return (min(list(rows)), max(list(rows)))


def rows_to(house, stand, band, body, many):
    """As few choices as can be behind which the side a has at least so many seats of a body, or None."""
    need_question(house, stand, band, body)
    if not is_whole(many, 0, MOST_SEATS):
        raise BadNumber(many)
    rows = _counts(reach_of(house, stand, band), body)
    # Numbers of seats to which fewer choices lead stand first.
    for number, row in rows.items():
        if number >= many:
            return row
    return None


def seats_paper(house, stand, band, body, *, least=False):
    """A paper on the greatest number of seats of a body that the side a has, or on the least one."""
    need_question(house, stand, band, body)
    reach = reach_of(house, stand, band)
    rows = _counts(reach, body)
    value = min(list(rows)) if least else max(list(rows))
    return (value, tuple(sorted(list(reach.table))), rows[value])


def check_seats(house, stand, band, body, paper, *, least=False):
    """The VALUE of a paper on the greatest or the least number of seats; BadPaper if it is not as told."""
    need_question(house, stand, band, body)
    if not is_tuple(paper, 3, 3) or not is_whole(paper[0], 0, MOST_SEATS):
        raise BadPaper("form")
    value, table, rows = paper
    steps = Steps(house, band, False)
    first = first_state(stand)
    if not is_table(steps, first, table) or not _is_within(steps, table, body, value, least):
        raise BadPaper("table")
    told = states_behind(steps, first, rows)
    if not told or _seats_of_a(told[-1], body) != value:
        raise BadPaper("rows")
    return value


def _is_within(steps, table, body, value, least):
    """Whether states lead to one another alone, and nowhere to more (or to fewer) seats than VALUE."""
    known = {state: True for state in table}
    for state in table:
        for behind in steps.steps_from(state).values():
            many = _seats_of_a(behind, body)
            if behind not in known or (many < value if least else many > value):
                return False
    return True
