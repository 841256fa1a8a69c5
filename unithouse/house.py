"""Houses: rooms with a member each, and deeds that lead the members of all rooms at once."""

from unithouse.errors import (BadIndex, BadKeep, BadMember, BadName, BadSort, BadStep, NoFree, NothingBack, SameName,
                              TooGreat)
from unithouse.members import MOST_OF_A_NAME, content_in, holds_member
from unithouse.readings import moved
from unithouse.sorts import is_below, is_name, is_whole, need_many, need_pair, need_sort
from unithouse.strings import exchanged_pair
from unithouse.ways import need_deeds

MOST_ROOMS = 6
MOST_KEEPS = 12
MOST_STATES = 200


def _need_room(many, place, room):
    """Raise what a room that is none is refused with."""
    if not isinstance(room, tuple) or len(room) != 2:
        raise BadSort((place,))
    sort, member = room
    try:
        need_sort(many, sort)
    except BadSort as wrong:
        raise BadSort((place, 0) + wrong.path)
    if not holds_member(many, sort, member):
        raise BadMember(member)


def _need_rooms(many, rooms):
    """Raise what the rooms of no house are refused with."""
    if not isinstance(rooms, tuple) or not 1 <= len(rooms) <= MOST_ROOMS:
        raise BadSort(())
    for place, room in enumerate(rooms):
        _need_room(many, place, room)


def _is_keep(many, count, value):
    """Whether a value is a keep of a house with so many rooms."""
    if not isinstance(value, tuple) or len(value) != 4:
        return False
    room, name, least, most = value
    if not is_below(room, count) or not is_name(many, name):
        return False
    return is_below(least, MOST_OF_A_NAME + 1) and is_below(most, MOST_OF_A_NAME + 1)


def _holds(contents, keep):
    """Whether a keep holds for the contents of the members of all rooms."""
    room, name, least, most = keep
    return least <= contents[room][name] <= most


def _need_keeps(many, contents, keeps):
    """Raise BadKeep of what are no keeps that hold for the contents."""
    if not isinstance(keeps, tuple):
        raise BadKeep(0)
    if len(keeps) > MOST_KEEPS:
        raise BadKeep(MOST_KEEPS)
    for place, keep in enumerate(keeps):
        if not _is_keep(many, len(contents), keep) or not _holds(contents, keep):
            raise BadKeep(place)


def _need_names(many, names):
    """Raise what is no tuple of unlike names."""
    if not isinstance(names, tuple):
        raise BadName(names)
    for name in names:
        if not is_name(many, name):
            raise BadName(name)
    for place, name in enumerate(names):
        if name in names[:place]:
            raise SameName(name)


def _deeds_between(names):
    """Return the list of the deeds between some names, but for exchanges told twice."""
    deeds = [("transfer", giver, taker) for giver in names for taker in names if giver != taker]
    return deeds + [("exchange", one, other) for one in names for other in names if one < other]


class House:
    """Rooms with a sort and a member each, led together."""

    def __init__(self, many, rooms, *, keeps=()):
        need_many(many)
        _need_rooms(many, rooms)
        contents = [content_in(many, sort, member) for sort, member in rooms]
        _need_keeps(many, contents, keeps)
        self.many = many
        self.sorts = tuple([sort for sort, _ in rooms])
        self.sums = tuple([sum(content) for content in contents])
        self.keeps = keeps
        self._members = tuple([member for _, member in rooms])
        # A tuple of the deed and of the state ahead of it, for each deed that was led and not taken back.
        self._led = ()

    def _contents_of(self, state):
        """Return the tuple of the contents of the members of a state."""
        return tuple([content_in(self.many, sort, member) for sort, member in zip(self.sorts, state)])

    def _things_behind(self, state, deed):
        """Return the list of what a deed leads each member of a state to, None where it does not."""
        word, one, other = deed
        if word == "transfer":
            return [moved(self.many, sort, member, one, other) for sort, member in zip(self.sorts, state)]
        low, high = min(one, other), max(one, other)
        return [exchanged_pair(self.many, sort, member, low, high) for sort, member in zip(self.sorts, state)]

    def _state_behind(self, state, deed):
        """Return the state to which a deed leads one; NoFree or BadKeep if it is refused."""
        things = self._things_behind(state, deed)
        if any([thing is None for thing in things]):
            raise NoFree(deed[1], deed[2])
        contents = self._contents_of(things)
        for place, keep in enumerate(self.keeps):
            if not _holds(contents, keep):
                raise BadKeep(place)
        return tuple(things)

    def _state_or_none(self, state, deed):
        """Return the state to which a deed leads one, None if it is refused."""
        try:
            return self._state_behind(state, deed)
        except (NoFree, BadKeep):
            return None

    def _states_along(self, state, deeds):
        """Return the list of the states behind deeds in turn, up to the first one that is refused."""
        found = []
        here = state
        for deed in deeds:
            here = self._state_or_none(here, deed)
            if here is None:
                break
            found.append(here)
        return found

    def _states_far(self, giver, taker):
        """Return the list of the states to which one transfer after another leads."""
        # Each transfer takes a mark of the giver in each room.
        most = min([content[giver] for content in self.contents()])
        return self._states_along(self._members, [("transfer", giver, taker)] * most)

    def _lead(self, deed):
        """Do a deed, or raise what it is refused with."""
        behind = self._state_behind(self._members, deed)
        self._led = self._led + ((deed, self._members),)
        self._members = behind

    def state(self):
        """Return the tuple of the members of all rooms."""
        return self._members

    def contents(self):
        """Return the tuple of the contents of the members."""
        return self._contents_of(self._members)

    def log(self):
        """Return the tuple of the deeds that were led and not taken back, the oldest first."""
        return tuple([deed for deed, _ in self._led])

    def offsets(self):
        """Return a tuple for each name: its marks in each room from room 1 on less those in room 0."""
        contents = self.contents()
        return tuple([tuple([content[name] - contents[0][name] for content in contents[1:]])
                      for name in range(self.many)])

    def copy(self):
        """Return a new house like this one, with the same log."""
        rooms = tuple([(sort, member) for sort, member in zip(self.sorts, self._members)])
        twin = House(self.many, rooms, keeps=self.keeps)
        twin._led = self._led
        return twin

    def transfer(self, giver, taker):
        """Lead the member of every room by the transfer."""
        need_pair(self.many, giver, taker)
        self._lead(("transfer", giver, taker))

    def exchange(self, one, other):
        """Lead the member of every room by the exchange."""
        need_pair(self.many, one, other)
        self._lead(("exchange", one, other))

    def stuck(self, giver, taker):
        """Return the ascending tuple of the rooms in which there is no such transfer."""
        need_pair(self.many, giver, taker)
        things = self._things_behind(self._members, ("transfer", giver, taker))
        return tuple([room for room, thing in enumerate(things) if thing is None])

    def how_far(self, giver, taker):
        """Return how many transfers from the giver to the taker would be led one after another."""
        need_pair(self.many, giver, taker)
        return len(self._states_far(giver, taker))

    def follow(self, way):
        """Lead all deeds of the way in turn, or none."""
        need_deeds(self.many, way)
        states = self._states_along(self._members, way)
        if len(states) < len(way):
            raise BadStep(len(states))
        ahead = [self._members] + states
        self._led = self._led + tuple([(deed, state) for deed, state in zip(way, ahead)])
        self._members = ahead[-1]

    def trial(self, way):
        """Return how many deeds of the way would be led ahead of the first refused one, and the state behind them."""
        need_deeds(self.many, way)
        states = self._states_along(self._members, way)
        return (len(states), ([self._members] + states)[-1])

    def undo(self):
        """Take the last deed back."""
        if len(self._led) == 0:
            raise NothingBack()
        self._members = self._led[-1][1]
        self._led = self._led[:-1]

    def chain(self, one, other):
        """Return the tuple of all states that transfers between two names lead to, from LOW to HIGH."""
        low, high = need_pair(self.many, one, other)
        return tuple(self._states_far(high, low)[::-1] + [self._members] + self._states_far(low, high))

    def reached(self, names, *, most=200):
        """Return the ascending tuple of all states that deeds between the names lead to."""
        _need_names(self.many, names)
        if not is_whole(most) or not 1 <= most <= MOST_STATES:
            raise BadIndex(most)
        deeds = _deeds_between(names)
        # A state may be nested too deep for a key, its text is not.
        found = {repr(self._members): self._members}
        waiting = [self._members]
        while len(waiting) > 0:
            state = waiting.pop()
            for behind in [self._state_or_none(state, deed) for deed in deeds]:
                if behind is None or repr(behind) in found:
                    continue
                if len(found) == most:
                    raise TooGreat(most)
                found[repr(behind)] = behind
                waiting.append(behind)
        return tuple(sorted(list(found.values())))

    def __len__(self):
        return len(self.sorts)

    def __iter__(self):
        return iter(self._members)

    def __eq__(self, other):
        return (isinstance(other, House) and self.many == other.many and self.sorts == other.sorts
                and self._members == other._members and self.keeps == other.keeps)
