"""Outliving: how long the majority of a body stays when most wards have turned away."""

from termseats.errors import BadPaper
from termseats.graphs import are_ascending, longest_rows, most_steps, ring_rows
from termseats.houses import is_tuple, is_whole, is_word, need_question
from termseats.states import Steps, first_state, reach_of, states_behind
from termseats.years import side_with_more


def _outlives(choices, behind, body):
    """Whether the majority of a body outlives its support in a year with choices, behind which a state is."""
    return side_with_more(choices) == "b" and side_with_more(behind[0][body]) == "a"


def _outliving(table, body):
    """The steps of a table in whose years the majority of a body outlives its support."""
    return {
        state: {choices: behind for choices, behind in leads.items() if _outlives(choices, behind, body)}
        for state, leads in table.items()}


def outlived(house, stand, band, body):
    """The most years on end in which the majority of a body outlives its support, None if there is no most."""
    need_question(house, stand, band, body)
    table = _outliving(reach_of(house, stand, band).table, body)
    many = most_steps(table)
    return max(list(many.values())) if len(many) == len(table) else None


def outlive_paper(house, stand, band, body):
    """A paper on how long the majority of a body outlives its support."""
    need_question(house, stand, band, body)
    reach = reach_of(house, stand, band)
    table = _outliving(reach.table, body)
    many = most_steps(table)
    if len(many) < len(table):
        state, ring = ring_rows(table, many)
        return ("endless", reach.rows_to(state), ring)
    most = max(list(many.values()))
    state = [one for one in table if many[one] == most][0]
    rows = reach.rows_to(state) + longest_rows(table, many, state)
    return ("bounded", most, rows, tuple(sorted(list(many.items()))))


def check_outlive(house, stand, band, body, paper):
    """The YEARS of a paper on how long, None of an endless one; BadPaper if it is not as told."""
    need_question(house, stand, band, body)
    steps = Steps(house, band, False)
    first = first_state(stand)
    if is_tuple(paper, 4, 4) and is_word(paper[0], ("bounded",)):
        if not _is_bounded(steps, first, body, paper):
            raise BadPaper("bounded")
        return paper[1]
    if is_tuple(paper, 3, 3) and is_word(paper[0], ("endless",)):
        if not _is_endless(steps, first, body, paper):
            raise BadPaper("endless")
        return None
    raise BadPaper("form")


def _is_endless(steps, first, body, paper):
    """Whether AHEAD leads to a state, and RING from there to it again by years of outliving alone."""
    _, ahead, ring = paper
    told = states_behind(steps, first, ahead)
    if told is None:
        return False
    start = told[-1] if told else first
    round_again = states_behind(steps, start, ring)
    if not round_again or round_again[-1] != start:
        return False
    return all([_outlives(choices, behind, body) for choices, behind in zip(ring, round_again)])


def _is_bounded(steps, first, body, paper):
    """Whether ROWS end with YEARS years of outliving, and HEIGHTS show that more never come."""
    _, years, rows, heights = paper
    told = states_behind(steps, first, rows)
    if told is None or not is_whole(years, 0, len(told)):
        return False
    outliving = [_outlives(choices, behind, body) for choices, behind in zip(rows, told)]
    if not all(outliving[len(told) - years:]):
        return False
    return _are_heights(steps, years, heights) and _go_down(steps, first, body, heights)


def _are_heights(steps, years, heights):
    """Whether a value is an ascending tuple of pairs of a state and a height, no state twice."""
    if not isinstance(heights, tuple):
        return False
    for pair in heights:
        if not is_tuple(pair, 2, 2) or not steps.is_state(pair[0]) or not is_whole(pair[1], 0, years):
            return False
    return are_ascending([state for state, _ in heights])


def _go_down(steps, first, body, heights):
    """Whether the first state has a height, and steps lead to states with heights, lower ones where it outlives."""
    known = {state: height for state, height in heights}
    if first not in known:
        return False
    for state, height in heights:
        for choices, behind in steps.steps_from(state).items():
            if behind not in known:
                return False
            if _outlives(choices, behind, body) and known[behind] >= height:
                return False
    return True
