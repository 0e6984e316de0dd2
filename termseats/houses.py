"""Houses, stands and bands: whether a value is one, and the round of a house."""

from math import lcm

from termseats.errors import BadBand, BadHouse, BadNumber, BadStand

TIES = ("a", "b", "kept")
MOST_WARDS = 4
MOST_BODIES = 3
MOST_SEATS = 9
MOST_TERM = 6
MOST_ROUND = 12
MOST_GAP = 4


def is_whole(value, least, most):
    """Whether a value is an integer from least to most."""
    # Python counts True and False among the integers; here they are none.
    return isinstance(value, int) and not isinstance(value, bool) and least <= value <= most


def is_tuple(value, least, most):
    """Whether a value is a tuple of at least and at most so many things."""
    return isinstance(value, tuple) and least <= len(value) <= most


def is_word(value, words):
    """Whether a value is one of some strings."""
    # Only strings are compared: a thing of another kind may answer == as it likes.
    return isinstance(value, str) and value in words


def is_sides(value, many):
    """Whether a value is a string of so many letters that are sides."""
    if not isinstance(value, str) or len(value) != many:
        return False
    return all([letter in "ab" for letter in value])


def is_way(value, many_bodies, wards):
    """Whether a value is a WAY in a house with so many bodies and wards."""
    if not is_tuple(value, 1, 3):
        return False
    if len(value) == 1:
        return is_word(value[0], ("kept",))
    if len(value) == 2:
        return is_word(value[0], ("ward",)) and is_whole(value[1], 0, wards - 1)
    word, body, tie = value
    if not is_word(word, ("body", "rest")) or not is_word(tie, TIES):
        return False
    return is_whole(body, 0, many_bodies - 1)


def is_seat(value, many_bodies, wards):
    """Whether a value is a seat in a house with so many bodies and wards."""
    if not is_tuple(value, 3, 3):
        return False
    term, phase, way = value
    if not is_whole(term, 1, MOST_TERM) or not is_whole(phase, 0, term - 1):
        return False
    return is_way(way, many_bodies, wards)


def need_house(house):
    """The house itself; BadHouse for any other value."""
    if not is_tuple(house, 2, 2):
        raise BadHouse("form")
    bodies, wards = house
    if not is_whole(wards, 0, MOST_WARDS):
        raise BadHouse("wards")
    if not is_tuple(bodies, 1, MOST_BODIES):
        raise BadHouse("bodies")
    for number, body in enumerate(bodies):
        _need_seats(body, number, len(bodies), wards)
    if sum([len(body) for body in bodies]) > MOST_SEATS:
        raise BadHouse("seats")
    if common_term(bodies) > MOST_ROUND:
        raise BadHouse("round")
    return house


def _need_seats(body, number, many_bodies, wards):
    """BadHouse, with the place, for a body that is none or has a seat that is none."""
    if not is_tuple(body, 1, MOST_SEATS):
        raise BadHouse((number,))
    for place, seat in enumerate(body):
        if not is_seat(seat, many_bodies, wards):
            raise BadHouse((number, place))


def common_term(bodies):
    """The least common multiple of all TERMS."""
    common = 1
    for body in bodies:
        for seat in body:
            common = lcm(common, seat[0])
    return common


def house_round(house):
    """The round of a house."""
    need_house(house)
    return common_term(house[0])


def is_stand(house, value):
    """Whether a value is a stand of the house."""
    bodies = house[0]
    if not is_tuple(value, len(bodies), len(bodies)):
        return False
    return all([is_sides(letters, len(body)) for body, letters in zip(bodies, value)])


def need_stand(house, stand):
    """The stand itself; BadStand for any value that is no stand of the house."""
    need_house(house)
    if not is_stand(house, stand):
        raise BadStand(stand)
    return stand


def need_body(house, body):
    """The number of a body of the house itself; BadNumber for any other value."""
    if not is_whole(body, 0, len(house[0]) - 1):
        raise BadNumber(body)
    return body


def need_band(band):
    """The band itself; BadBand for any other value."""
    if not is_tuple(band, 2, 2):
        raise BadBand("form")
    turn, gap = band
    if turn is not None and not is_whole(turn, 0, MOST_WARDS):
        raise BadBand("turn")
    if not is_whole(gap, 1, MOST_GAP):
        raise BadBand("gap")
    return band


def need_question(house, stand, band, body):
    """Nothing; the exception that is due if what is asked of a body is not asked rightly."""
    need_stand(house, stand)
    need_band(band)
    need_body(house, body)
