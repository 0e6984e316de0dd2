"""The points of the document word by word: plain and slow, and without the package."""

import itertools


def side_by_the_document(house, stand, number, choices, body, seat):
    """The side of one seat behind a year, as point 12 tells it word by word."""
    bodies = house[0]
    term, phase, way = bodies[body][seat]
    side = stand[body][seat]
    if number % term != phase or way == ("kept",):
        return side
    if way[0] == "ward":
        return choices[way[1]]
    voters = {"a": 0, "b": 0}
    for place, (other_term, other_phase, _) in enumerate(bodies[way[1]]):
        if way[0] == "body" or number % other_term != other_phase:
            voters[stand[way[1]][place]] += 1
    if voters["a"] > voters["b"]:
        return "a"
    if voters["b"] > voters["a"]:
        return "b"
    return {"a": "a", "b": "b", "kept": side}[way[2]]


def stand_by_the_document(house, stand, number, choices):
    return tuple([
        "".join([side_by_the_document(house, stand, number, choices, body, seat)
                 for seat in range(len(seats))])
        for body, seats in enumerate(house[0])])


def all_rows(wards):
    """All choices, ascending."""
    return ["".join(letters) for letters in itertools.product("ab", repeat=wards)]


def round_of(house):
    terms = [seat[0] for body in house[0] for seat in body]
    return [many for many in range(1, 61) if all(many % term == 0 for term in terms)][0]


def turned_wards(ahead, choices):
    return [ward for ward in range(len(choices)) if choices[ward] != ahead[ward]]


def is_within(band, rows):
    """Whether choices of the years from 0 on are within a band, as point 13 tells it."""
    turn, gap = band
    for number in range(1, len(rows)):
        turned = turned_wards(rows[number - 1], rows[number])
        if turn is not None and len(turned) > turn:
            return False
        for ward in turned:
            if len({choices[ward] for choices in rows[number:number + gap]}) > 1:
                return False
    return True


def past_of(band, rows):
    """LAST and AGES behind rows of choices, as point 14 tells them."""
    if not rows or band == (None, 1):
        return ("", ())
    ages = []
    for ward in range(len(rows[0])):
        turns = [number for number in range(1, len(rows)) if rows[number][ward] != rows[number - 1][ward]]
        # It tells the same in band[1] years, that of its last turn among them.
        ages.append(max(0, turns[-1] + band[1] - len(rows)) if turns else 0)
    return (rows[-1], tuple(ages))


def graph_of(house, stand, band):
    """A dict from each state that comes to a dict from choices to the state behind, going on year by year."""
    ways = {(stand, 0, "", ()): ()}
    graph = {}
    waiting = list(ways)
    for state in waiting:
        rows = ways[state]
        graph[state] = {}
        for choices in all_rows(house[1]):
            if is_within(band, rows + (choices,)):
                behind = (stand_by_the_document(house, state[0], len(rows), choices),
                          (len(rows) + 1) % round_of(house)) + past_of(band, rows + (choices,))
                graph[state][choices] = behind
                if behind not in ways:
                    ways[behind] = rows + (choices,)
                    waiting.append(behind)
    return graph


def is_integer(value, least, most):
    return type(value) is int and least <= value <= most


def is_state(house, band, value):
    """Whether a value has the form of a state, as points 14 and 15 tell it."""
    if type(value) is not tuple or len(value) != 4:
        return False
    stand, number, last, ages = value
    if type(stand) is not tuple or len(stand) != len(house[0]):
        return False
    for letters, body in zip(stand, house[0]):
        if type(letters) is not str or len(letters) != len(body) or letters.strip("ab") != "":
            return False
    if not is_integer(number, 0, round_of(house) - 1):
        return False
    if type(last) is not str or type(ages) is not tuple:
        return False
    if last == "":
        return ages == ()
    return band != (None, 1) and is_past(house, band, last, ages)


def is_past(house, band, last, ages):
    """Whether strings and tuples are LAST and AGES of a full state."""
    if last not in all_rows(house[1]) or len(ages) != house[1]:
        return False
    return all(is_integer(age, 0, band[1] - 1) for age in ages)


def may_come(band, last, ages, choices):
    """Whether choices may come behind LAST and AGES."""
    if last == "":
        return True
    turned = turned_wards(last, choices)
    return (band[0] is None or len(turned) <= band[0]) and not any(ages[ward] for ward in turned)


def ages_behind(band, last, ages, choices):
    if last == "":
        return (0,) * len(choices)
    turned = turned_wards(last, choices)
    return tuple([band[1] - 1 if ward in turned else max(0, ages[ward] - 1) for ward in range(len(choices))])


def behind(house, band, state, choices):
    """The state behind a year with choices, None if they may not come."""
    stand, number, last, ages = state
    if not may_come(band, last, ages, choices):
        return None
    past = ("", ()) if band == (None, 1) else (choices, ages_behind(band, last, ages, choices))
    return (stand_by_the_document(house, stand, number, choices), (number + 1) % round_of(house)) + past


def all_behind(house, band, state):
    """The pairs of choices that may come and the state behind."""
    pairs = [(choices, behind(house, band, state, choices)) for choices in all_rows(house[1])]
    return [(choices, told) for choices, told in pairs if told is not None]


def walk(house, band, state, rows):
    """The states behind each of rows, None if these are no tuple of choices that may come one behind the other."""
    if type(rows) is not tuple:
        return None
    told = []
    for choices in rows:
        if type(choices) is not str or choices not in all_rows(house[1]):
            return None
        state = behind(house, band, state, choices)
        if state is None:
            return None
        told.append(state)
    return told


def is_ascending(values):
    return all(values[at - 1] < values[at] for at in range(1, len(values)))


def seats_told(house, stand, band, body, paper, least):
    """The VALUE of a paper on a number of seats, or the word with which it is refused, as point 15 tells it."""
    if type(paper) is not tuple or len(paper) != 3 or not is_integer(paper[0], 0, 9):
        return "form"
    value, table, rows = paper
    if type(table) is not tuple or not all(is_state(house, band, state) for state in table):
        return "table"
    if not is_ascending(table) or (stand, 0, "", ()) not in table:
        return "table"
    for state in table:
        for _, told in all_behind(house, band, state):
            many = told[0][body].count("a")
            if told not in table or (many < value if least else many > value):
                return "table"
    told = walk(house, band, (stand, 0, "", ()), rows)
    if not told or told[-1][0][body].count("a") != value:
        return "rows"
    return value


def outlives(choices, stand, body):
    """Whether a year with choices, behind which a stand is, is one of point 16."""
    turned_away = choices.count("b") > choices.count("a")
    return turned_away and stand[body].count("a") * 2 > len(stand[body])


def outlive_told(house, stand, band, body, paper):
    """YEARS of a paper on how long, None if endless, or the word with which it is refused, as point 16 tells it."""
    first = (stand, 0, "", ())
    if type(paper) is tuple and len(paper) == 4 and type(paper[0]) is str and paper[0] == "bounded":
        _, years, rows, heights = paper
        told = walk(house, band, first, rows)
        if told is None or not is_integer(years, 0, len(rows)):
            return "bounded"
        if not all(outlives(rows[at], told[at][0], body) for at in range(len(rows) - years, len(rows))):
            return "bounded"
        return years if are_heights(house, band, body, first, years, heights) else "bounded"
    if type(paper) is tuple and len(paper) == 3 and type(paper[0]) is str and paper[0] == "endless":
        _, ahead, ring = paper
        if type(ahead) is not tuple or type(ring) is not tuple or ring == ():
            return "endless"
        told = walk(house, band, first, ahead + ring)
        if told is None or told[-1] != ([first] + told)[len(ahead)]:
            return "endless"
        if not all(outlives(choices, state[0], body) for choices, state in zip(ring, told[len(ahead):])):
            return "endless"
        return None
    return "form"


def are_heights(house, band, body, first, years, heights):
    if type(heights) is not tuple or not all(type(pair) is tuple and len(pair) == 2 for pair in heights):
        return False
    if not all(is_state(house, band, state) and is_integer(height, 0, years) for state, height in heights):
        return False
    known = dict(heights)
    if not is_ascending(heights) or len(known) != len(heights) or first not in known:
        return False
    for state, height in heights:
        for choices, told in all_behind(house, band, state):
            if told not in known or (outlives(choices, told[0], body) and known[told] > height - 1):
                return False
    return True


def is_above(stand, other):
    """Whether "a" has in a stand each seat that it has in another one."""
    return all(stand[body][place] == "a"
               for body, letters in enumerate(other) for place, letter in enumerate(letters) if letter == "a")


def all_stands(house):
    return list(itertools.product(*[all_rows(len(body)) for body in house[0]]))


def ends_of(house):
    return all_stands(house)[-1], all_stands(house)[0]


def pair_graph_of(house, band):
    """A dict from each pair state that comes, going on from both ends, to a dict from choices to that behind."""
    first = ends_of(house) + (0, "", ())
    ways = {first: ()}
    graph = {}
    waiting = [first]
    for pair in waiting:
        rows = ways[pair]
        graph[pair] = {}
        for choices in all_rows(house[1]):
            if is_within(band, rows + (choices,)):
                told = pair_behind_stands(house, pair, len(rows), choices) + (
                    (len(rows) + 1) % round_of(house),) + past_of(band, rows + (choices,))
                graph[pair][choices] = told
                if told not in ways:
                    ways[told] = rows + (choices,)
                    waiting.append(told)
    return graph


def pair_behind_stands(house, pair, number, choices):
    return tuple([stand_by_the_document(house, stand, number, choices) for stand in pair[:2]])


def pair_behind(house, band, pair, choices):
    """The pair state behind a year with choices, None if they may not come."""
    lows, highs = [behind(house, band, (stand,) + pair[2:], choices) for stand in pair[:2]]
    return None if lows is None else (lows[0],) + highs


def pair_walk(house, band, pair, rows):
    """The pair states behind each of rows, None if these are no tuple of choices that may come."""
    if walk(house, band, pair[:1] + pair[2:], rows) is None:
        return None
    told = []
    for choices in rows:
        pair = pair_behind(house, band, pair, choices)
        told.append(pair)
    return told


def is_unlike_pair(house, band, value):
    """Whether a value has the form of a pair state of unlike stands, HIGH being above LOW."""
    if type(value) is not tuple or len(value) != 5:
        return False
    low, high = value[:2]
    if not is_state(house, band, (low,) + value[2:]) or not is_state(house, band, (high,) + value[2:]):
        return False
    return low != high and is_above(high, low)


def memory_told(house, band, paper):
    """N of a paper on memory, None of "apart", or the word with which it is refused, as point 43 tells it."""
    first = ends_of(house) + (0, "", ())
    if type(paper) is tuple and len(paper) == 4 and type(paper[0]) is str and paper[0] == "together":
        _, many, rows, heights = paper
        told = pair_walk(house, band, first, rows)
        if told is None or not is_integer(many, 1, 10 ** 1000) or len(rows) != many - 1:
            return "together"
        low, high = ([first] + told)[-1][:2]
        if low == high or type(heights) is not tuple:
            return "together"
        if not all(type(one) is tuple and len(one) == 2 for one in heights):
            return "together"
        if not all(is_unlike_pair(house, band, pair) and is_integer(height, 1, many) for pair, height in heights):
            return "together"
        known = dict(heights)
        if not is_ascending(heights) or len(known) != len(heights) or first not in known:
            return "together"
        for pair, height in heights:
            for choices in all_rows(house[1]):
                told = pair_behind(house, band, pair, choices)
                if told is not None and told[0] != told[1] and not known.get(told, many) <= height - 1:
                    return "together"
        return many
    if type(paper) is tuple and len(paper) == 3 and type(paper[0]) is str and paper[0] == "apart":
        _, ahead, ring = paper
        if type(ahead) is not tuple or type(ring) is not tuple or ring == ():
            return "apart"
        told = pair_walk(house, band, first, ahead + ring)
        if told is None:
            return "apart"
        start = ([first] + told)[len(ahead)]
        return None if start[0] != start[1] and told[-1] == start else "apart"
    return "form"


def full_past_of(band, last, rows):
    """LAST and AGES of the full state behind rows, LAST being the choices of the year ahead of them."""
    if band == (None, 1):
        return (((last,) + rows)[-1], (0,) * len(last))
    return past_of(band, (last,) + rows)


def full_graph_of(house, stand, last, band):
    """A dict from each full state that comes to a dict from choices to the one behind, going on year by year."""
    first = (stand, 0, last, (0,) * house[1])
    ways = {first: ()}
    graph = {}
    waiting = [first]
    for state in waiting:
        rows = ways[state]
        graph[state] = {}
        for choices in all_rows(house[1]):
            if is_within(band, (last,) + rows + (choices,)):
                told = (stand_by_the_document(house, state[0], len(rows), choices),
                        (len(rows) + 1) % round_of(house)) + full_past_of(band, last, rows + (choices,))
                graph[state][choices] = told
                if told not in ways:
                    ways[told] = rows + (choices,)
                    waiting.append(told)
    return graph


def is_full(house, band, value):
    """Whether a value has the form of a full state."""
    if type(value) is not tuple or len(value) != 4 or not is_state(house, band, (value[0], value[1], "", ())):
        return False
    last, ages = value[2:]
    return type(last) is str and type(ages) is tuple and is_past(house, band, last, ages)


def full_behind(house, band, state, choices):
    """The full state behind a year with choices, None if they may not come."""
    stand, number, last, ages = state
    turned = turned_wards(last, choices)
    if (band[0] is not None and len(turned) > band[0]) or any(ages[ward] for ward in turned):
        return None
    later = [band[1] - 1 if ward in turned else max(0, ages[ward] - 1) for ward in range(len(choices))]
    return (stand_by_the_document(house, stand, number, choices), (number + 1) % round_of(house),
            choices, tuple(later))


def all_full_behind(house, band, state):
    """Triples for all choices that may come: what the year costs, the full state behind, and the choices."""
    told = [(len(turned_wards(state[2], choices)), full_behind(house, band, state, choices), choices)
            for choices in all_rows(house[1])]
    return [one for one in told if one[1] is not None]


def has_body(state, body):
    return state[0][body].count("a") > state[0][body].count("b")


def take_told(house, stand, last, band, body, paper):
    """COST of a paper on taking a body, None of "never", or the word with which it is refused, as point 49 tells."""
    first = (stand, 0, last, (0,) * house[1])
    if type(paper) is tuple and len(paper) == 4 and type(paper[0]) is str and paper[0] == "cost":
        return cost_told(house, band, body, first, paper)
    if type(paper) is tuple and len(paper) == 2 and type(paper[0]) is str and paper[0] == "never":
        table = paper[1]
        if type(table) is not tuple or not all(is_full(house, band, state) for state in table):
            return "never"
        if not is_ascending(table) or first not in table:
            return "never"
        for state in table:
            for _, told, _ in all_full_behind(house, band, state):
                if told not in table or has_body(told, body):
                    return "never"
        return None
    return "form"


def cost_told(house, band, body, first, paper):
    _, cost, rows, prices = paper
    if type(rows) is not tuple or rows == () or not is_integer(cost, 0, 10 ** 9) or type(prices) is not tuple:
        return "cost"
    state, paid = first, 0
    for choices in rows:
        ways = {one[2]: one for one in all_full_behind(house, band, state)}
        if type(choices) is not str or choices not in ways:
            return "cost"
        paid, state = paid + ways[choices][0], ways[choices][1]
    if paid != cost or not has_body(state, body):
        return "cost"
    if not all(type(one) is tuple and len(one) == 2 for one in prices):
        return "cost"
    if not all(is_full(house, band, state) and is_integer(price, 1, 10 ** 9) for state, price in prices):
        return "cost"
    known = dict(prices)
    if not is_ascending(prices) or len(known) != len(prices) or (cost > 0 and known.get(first, 0) < cost):
        return "cost"
    for state, price in prices:
        for paid, told, _ in all_full_behind(house, band, state):
            if price > paid + (0 if has_body(told, body) else known.get(told, 0)):
                return "cost"
    return cost
