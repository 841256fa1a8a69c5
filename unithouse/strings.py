"""Strings of members, and the exchange of two names.

`place_in`, `led_to` and `exchanged_pair` trust what they are passed: they are for the other
modules. LOW and HIGH are the lesser and the greater one of the two names throughout.
"""

from unithouse.errors import BadIndex, BadMember
from unithouse.listing import listed, need_few
from unithouse.members import holds_member
from unithouse.readings import brackets, free_in, moved, need_member_and_pair
from unithouse.sorts import is_below, need_pair, need_sort


def place_in(many, sort, member, low, high):
    """Return the pair of a member's place in its string and the string's length."""
    closing, opening = free_in(brackets(many, sort, member, low, high))
    return (len(closing), len(closing) + len(opening))


def led_to(many, sort, member, low, high, place):
    """Return the member at a place of a member's string, the place being one of it."""
    here = place_in(many, sort, member, low, high)[0]
    giver, taker = low, high
    if place < here:
        giver, taker = high, low
    led = member
    for _ in range(abs(place - here)):
        led = moved(many, sort, led, giver, taker)
    return led


def members_from_head(many, sort, member, low, high):
    """Return the tuple of all members of a member's string, from the head on."""
    length = place_in(many, sort, member, low, high)[1]
    found = [led_to(many, sort, member, low, high, 0)]
    for _ in range(length):
        found.append(moved(many, sort, found[-1], low, high))
    return tuple(found)


def exchanged_pair(many, sort, member, low, high):
    """Return a member with its two names exchanged."""
    place, length = place_in(many, sort, member, low, high)
    return led_to(many, sort, member, low, high, length - place)


def string_place(many, sort, member, name, other):
    """Return the pair of the member's place in its string and the string's length."""
    low, high = need_member_and_pair(many, sort, member, name, other)
    return place_in(many, sort, member, low, high)


def is_head(many, sort, member, name, other):
    """Whether the member is the head of its string."""
    return string_place(many, sort, member, name, other)[0] == 0


def head_of(many, sort, member, name, other):
    """Return the head of the member's string."""
    low, high = need_member_and_pair(many, sort, member, name, other)
    return led_to(many, sort, member, low, high, 0)


def string_members(many, sort, member, name, other):
    """Return the tuple of all members of the member's string, from the head on."""
    low, high = need_member_and_pair(many, sort, member, name, other)
    return members_from_head(many, sort, member, low, high)


def string_at(many, sort, member, name, other, place):
    """Return the member at the place of the member's string."""
    low, high = need_member_and_pair(many, sort, member, name, other)
    length = place_in(many, sort, member, low, high)[1]
    if not is_below(place, length + 1):
        raise BadIndex(place)
    return led_to(many, sort, member, low, high, place)


def exchange(many, sort, member, name, other):
    """Return the member with the two names exchanged."""
    low, high = need_member_and_pair(many, sort, member, name, other)
    return exchanged_pair(many, sort, member, low, high)


def heads_listed(many, sort, name, other):
    """Return the ascending tuple of all heads of the sort for the two names."""
    need_sort(many, sort)
    low, high = need_pair(many, name, other)
    need_few(many, sort)
    return tuple([member for member in listed(many, sort) if place_in(many, sort, member, low, high)[0] == 0])


class String:
    """The string of a member for two names; it never changes."""

    def __init__(self, many, sort, member, name, other):
        low, high = need_member_and_pair(many, sort, member, name, other)
        self._many = many
        self._sort = sort
        self._low = low
        self._high = high
        self._members = members_from_head(many, sort, member, low, high)

    @property
    def low(self):
        """The lesser name."""
        return self._low

    @property
    def high(self):
        """The greater name."""
        return self._high

    @property
    def head(self):
        """The first member."""
        return self._members[0]

    @property
    def last(self):
        """The last member."""
        return self._members[-1]

    @property
    def length(self):
        """How many transfers lead from the head to the last member."""
        return len(self._members) - 1

    def at(self, place):
        """Return the member at the place."""
        if not is_below(place, len(self._members)):
            raise BadIndex(place)
        return self._members[place]

    def place_of(self, value):
        """Return the place of a member of the string."""
        if value not in self:
            raise BadMember(value)
        return self._members.index(value)

    def __contains__(self, value):
        # True and False are equal to 1 and 0, but stand for no name: so the sort is asked first.
        return holds_member(self._many, self._sort, value) and value in self._members

    def __iter__(self):
        return iter(self._members)

    def __len__(self):
        return len(self._members)

    def __eq__(self, other):
        return (isinstance(other, String) and self._many == other._many and self._sort == other._sort
                and self._low == other._low and self._high == other._high and self._members == other._members)
