"""Things of every kind, houses, stands and choices that the tests pass."""

import random

HUGE = 10 ** 999
# All characters that strings which are passed may contain.
CHARACTERS = "\n" + "".join([chr(code) for code in range(32, 127) if chr(code) != "%"])


class Hostile:
    """Nothing may be asked of it: neither ==, nor an order, a length, a truth or a hash."""

    def refuse(self, *_):
        raise RuntimeError("this object was asked something")

    __eq__ = __ne__ = __lt__ = __le__ = __gt__ = __ge__ = refuse
    __bool__ = __len__ = __iter__ = __getitem__ = __contains__ = __hash__ = refuse
    __index__ = __int__ = __mod__ = __sub__ = __rsub__ = refuse


class Agreeing:
    """It says of itself that it equals everything."""

    def __eq__(self, other):
        return True

    def __hash__(self):
        return 0


def deep(many):
    """An empty tuple within so many tuples."""
    thing = ()
    for _ in range(many):
        thing = (thing,)
    return thing


def things():
    """New things of every kind."""
    numbers = [0, 1, 2, 3, 4, 5, 6, 7, 9, 10, 12, 13, -1, -2, HUGE, -HUGE]
    strings = ["", "a", "b", "ab", "ba", "aa", "A", " a", "a\n", "kept", "ward", "body", "rest",
               "=", "?", "-", "0", "c", "a" * 400]
    tuples = [(), (0,), ("a",), ("kept",), (0, 0), (1, 1), (None, 1), ("ward", 0), ("a", "b"),
              (True, True), (0, 0, 0), ("body", 0, "a"), ((), ()), ((),), deep(49)]
    lists = [[], [0], ["a"], [0, 0], ["kept"], ["ward", 0], [None, 1], ["a", "b"], [[]]]
    others = [None, True, False, b"", b"a", b"ab", {}, {0: 1}, {"a": "b"}, set(), {0, 1}, {"a"},
              frozenset({"a"}), range(0), range(2), object(), int, str, tuple, len, ValueError(),
              ValueError, NotImplemented, Ellipsis, Hostile(), Agreeing(), bytearray(b"a"),
              iter(("a",)), (letter for letter in "a"), lambda: 0]
    return numbers + strings + tuples + lists + others


def no_integers():
    """Things of every kind but integers."""
    return [thing for thing in things() if isinstance(thing, bool) or not isinstance(thing, int)]


def replaced(value, path, thing):
    """The value with a thing in the place to which the path of indexes leads."""
    if not path:
        return thing
    at = path[0]
    return value[:at] + (replaced(value[at], path[1:], thing),) + value[at + 1:]


def all_ways(bodies, wards):
    """Each WAY there is in a house with so many bodies and wards."""
    ways = [("kept",)] + [("ward", number) for number in range(wards)]
    for word in ("body", "rest"):
        for body in range(bodies):
            for tie in ("a", "b", "kept"):
                ways.append((word, body, tie))
    return ways


def some_house(rng):
    """A house, of all sorts."""
    wards = rng.randint(0, 4)
    sizes = [rng.randint(1, 9) for _ in range(rng.randint(1, 3))]
    while sum(sizes) > 9:
        largest = sizes.index(max(sizes))
        sizes[largest] -= 1
    terms = rng.choice([(1, 2, 3, 4, 6), (1, 2, 5), (1,), (2,), (1, 2, 3), (6,), (5,), (3, 4)])
    ways = all_ways(len(sizes), wards)
    bodies = []
    for size in sizes:
        body = []
        for _ in range(size):
            term = rng.choice(terms)
            body.append((term, rng.randrange(term), rng.choice(ways)))
        bodies.append(tuple(body))
    return (tuple(bodies), wards)


def some_letters(rng, many):
    return "".join([rng.choice("ab") for _ in range(many)])


def some_stand(rng, house):
    return tuple([some_letters(rng, len(body)) for body in house[0]])


def some_cases(many, seed):
    """So many houses with a stand each, the same in each run of the tests."""
    rng = random.Random(seed)
    for _ in range(many):
        house = some_house(rng)
        yield rng, house, some_stand(rng, house)


BANDS = [(turn, gap) for turn in (None, 0, 1, 2, 3, 4) for gap in (1, 2, 3, 4)]


def small_house(rng, bodies, wards, seats):
    """A house of so many bodies and wards, with few states: its terms are short."""
    terms = rng.choice([(1,), (1, 2), (2,), (2, 4), (1, 3), (3,)])
    sizes = [1] * bodies
    for _ in range(seats - bodies):
        sizes[rng.randrange(bodies)] += 1
    ways = all_ways(bodies, wards)
    # Wards are to be among the ways more often than the many ties would have it.
    ways += [("ward", rng.randrange(wards)) for _ in range(len(ways) // 2)] if wards else []
    whole = []
    for size in sizes:
        chosen = [rng.choice(terms) for _ in range(size)]
        whole.append(tuple([(term, rng.randrange(term), rng.choice(ways)) for term in chosen]))
    return (tuple(whole), wards)


def some_path(rng, value):
    """The path of indexes to a thing within nested tuples, at any depth."""
    path = ()
    while isinstance(value, tuple) and value and rng.random() < 0.8:
        at = rng.randrange(len(value))
        path, value = path + (at,), value[at]
    return path


def at_path(value, path):
    for at in path:
        value = value[at]
    return value


def otherwise(rng, value):
    """What may stand in the place of a value of nested tuples, strings and integers, much like it."""
    if isinstance(value, bool) or value is None:
        return rng.choice([0, 1, "", ()])
    if isinstance(value, int):
        return rng.choice([value + 1, value - 1, value == 1, -value, None, str(value), HUGE, 0])
    if isinstance(value, str):
        at = rng.randrange(len(value) + 1)
        turned = {"a": "b", "b": "a"}.get(value[at:at + 1], "a")
        return rng.choice([value[:at] + turned + value[at + 1:]] * 4 + [
            value + "a", value[1:], value[:at] + "c" + value[at + 1:], tuple(value), list(value),
            value.encode(), None, 0, value + "\n", ""])
    if isinstance(value, tuple):
        at = rng.randrange(len(value) + 1)
        far = rng.randrange(len(value) + 1)
        return rng.choice([value[:at] + value[at + 1:]] * 3 + [
            value[:at] + value[far:far + 1] + value[at:], value[:at] + value[at:at + 1] * 2 + value[at + 1:],
            value[::-1], list(value), (), None, value + (0,), value + ("a",), dict.fromkeys(range(len(value))),
            tuple([list(one) if isinstance(one, tuple) else one for one in value])])
    return None


def changed(rng, value):
    """A value of nested tuples with one part of it, at any depth, otherwise."""
    path = some_path(rng, value)
    return replaced(value, path, otherwise(rng, at_path(value, path)))


def mixed_cases(seed, most_wards=4):
    """Small houses of each number of bodies and wards, each with several bands: (rng, house, stand, band)."""
    rng = random.Random(seed)
    for wards in range(most_wards + 1):
        for bodies in (1, 2, 3):
            bands = [(None, 1)] + BANDS if wards < 4 else [(None, 1), (4, 1), (0, 1), (1, 1), (0, 3), (1, 2)]
            for band in bands if wards else bands[:5]:
                # Of many wards there are many choices behind each state, so the rest is kept small.
                house = small_house(rng, bodies, wards, rng.randint(bodies, 5 if wards < 3 else 3))
                yield rng, house, some_stand(rng, house), band
