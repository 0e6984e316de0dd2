"""Led: a house that is led year by year, with deeds that can be taken back."""

from termseats.errors import BadNumber, TooGreat
from termseats.houses import is_whole, need_body, need_house, need_stand
from termseats.years import need_choices, stand_behind

MOST_DEEDS = 400


def need_place(house, body, place):
    """Nothing; BadNumber for what is no number of a body of the house, or of a seat of it."""
    need_body(house, body)
    if not is_whole(place, 0, len(house[0][body]) - 1):
        raise BadNumber(place)


class Saved:
    """The deeds of a led house at a time, and what was saved ahead of them."""

    def __init__(self, tried, ahead):
        self.deeds = tried.deeds
        self.points = tried.points
        self.undone = tried.undone
        self.ahead = ahead


class Trial:
    """A manager that gives a led house: behind its block this is as it was when the block began."""

    def __init__(self, tried):
        self.tried = tried
        self.saved = None

    def __enter__(self):
        # The blocks of one manager may stand within one another.
        self.saved = Saved(self.tried, self.saved)
        return self.tried

    def __exit__(self, kind, value, trace):
        self.tried.deeds = self.saved.deeds
        self.tried.points = self.saved.points
        self.tried.undone = self.saved.undone
        self.saved = self.saved.ahead


class Led:
    """A house that is led: it has a stand and years behind it, and its deeds can be taken back."""

    def __init__(self, house, stand):
        need_stand(house, stand)
        self.begun = (house, stand)
        # The deeds that were done and not taken back.
        self.deeds = ()
        # The house, the stand and the number of the year to come, ahead of all deeds and behind each of them.
        self.points = ((house, stand, 0),)
        # What was taken back, the last at the end: pairs of a deed and the point behind it.
        self.undone = ()

    @property
    def house(self):
        """The house as it is now."""
        return self.points[-1][0]

    @property
    def stand(self):
        """The stand as it is now."""
        return self.points[-1][1]

    @property
    def number(self):
        """The number of the year to come."""
        return self.points[-1][2]

    def __len__(self):
        """How many deeds were done and not taken back."""
        return len(self.deeds)

    def __eq__(self, other):
        return isinstance(other, Led) and self.begun == other.begun and self.deeds == other.deeds

    def vote(self, choices):
        """A year, by choices; the stand behind it."""
        house, stand, number = self.points[-1]
        need_choices(house, choices)
        behind = stand_behind(house, stand, number, choices)
        self._do(("vote", choices), (house, behind, number + 1))
        return behind

    def amend(self, body, place, seat):
        """One seat becomes another one, the letter staying."""
        house, stand, number = self.points[-1]
        need_place(house, body, place)
        bodies, wards = house
        seats = bodies[body][:place] + (seat,) + bodies[body][place + 1:]
        amended = need_house((bodies[:body] + (seats,) + bodies[body + 1:], wards))
        self._do(("amend", body, place, seat), (amended, stand, number))

    def _do(self, deed, point):
        """A deed that was found right, point being what is behind it."""
        if len(self.deeds) >= MOST_DEEDS:
            raise TooGreat(MOST_DEEDS)
        self.deeds += (deed,)
        self.points += (point,)
        # What was taken back could be done again only as long as nothing else was done.
        self.undone = ()

    def votes(self):
        """The choices of all years."""
        return tuple([deed[1] for deed in self.deeds if deed[0] == "vote"])

    def undo(self):
        """Take the last deed back; whether there was one."""
        if not self.deeds:
            return False
        self.undone += ((self.deeds[-1], self.points[-1]),)
        self.deeds = self.deeds[:-1]
        self.points = self.points[:-1]
        return True

    def redo(self):
        """Do again what was taken back last; whether there was such a deed."""
        if not self.undone:
            return False
        deed, point = self.undone[-1]
        self.deeds += (deed,)
        self.points += (point,)
        self.undone = self.undone[:-1]
        return True

    def copy(self):
        """Another led house that stands as this one and goes on by itself."""
        twin = Led(self.begun[0], self.begun[1])
        twin.deeds = self.deeds
        twin.points = self.points
        twin.undone = self.undone
        return twin

    def trial(self):
        """A manager whose block gets this led house, which is behind it as it was when the block began."""
        return Trial(self)


def under(manager, deed):
    """What a deed returns that is called with what a manager gives, in its block."""
    with manager as one:
        return deed(one)
