"""Houses worked out in the plainest way, for the tests to compare with."""

from functools import lru_cache

from tests import reference


@lru_cache(maxsize=None)
def moved(many, sort, member, giver, taker):
    return reference.transfer(many, sort, member, giver, taker)


def exchanged(many, sort, member, one, other):
    """Return the member exchanged: transfers lead to the one whose marks have changed places."""
    marks = reference.content(many, sort, member)
    giver, taker = (one, other) if marks[one] > marks[other] else (other, one)
    for _ in range(abs(marks[one] - marks[other])):
        member = moved(many, sort, member, giver, taker)
    return member


class PlainHouse:
    """The number of names, the rooms' sorts and members, and keeps."""

    def __init__(self, many, rooms, keeps=()):
        self.many, self.keeps = many, keeps
        self.sorts = tuple(sort for sort, _ in rooms)
        self.state = tuple(member for _, member in rooms)

    def marks(self, state, room, name):
        return reference.content(self.many, self.sorts[room], state[room])[name]

    def behind(self, state, deed):
        """Return (state, None) behind a deed, or (None, why) with "free" or the place of a keep."""
        word, one, other = deed
        lead = moved if word == "transfer" else exchanged
        led = tuple(lead(self.many, sort, member, one, other) for sort, member in zip(self.sorts, state))
        if None in led:
            return None, "free"
        for place, (room, name, least, most) in enumerate(self.keeps):
            if not least <= self.marks(led, room, name) <= most:
                return None, place
        return led, None

    def far(self, state, giver, taker):
        """Return the list of the states behind transfers one after another."""
        found = []
        state = self.behind(state, ("transfer", giver, taker))[0]
        while state is not None:
            found.append(state)
            state = self.behind(state, ("transfer", giver, taker))[0]
        return found

    def chain(self, low, high):
        return (*reversed(self.far(self.state, high, low)), self.state, *self.far(self.state, low, high))

    def reached(self, names, most=10 ** 9):
        """Return the ascending tuple of all states that are reached, None if there are more than the most."""
        found, waiting = {self.state}, [self.state]
        while waiting:
            state = waiting.pop()
            for word in ("transfer", "exchange"):
                for one in names:
                    for other in names:
                        led = None if one == other else self.behind(state, (word, one, other))[0]
                        if led is not None and led not in found:
                            found.add(led)
                            waiting.append(led)
            if len(found) > most:
                return None
        return tuple(sorted(found))
