"""Alike sorts, and their members matched by two names.

LOW and HIGH are the lesser and the greater one of the two names throughout.
"""

from unithouse.counts import content_counts
from unithouse.errors import BadMember, BadPaper, Unlike
from unithouse.listing import listed, need_few
from unithouse.members import content_in, holds_member
from unithouse.readings import moved
from unithouse.sorts import need_pair, need_sort
from unithouse.strings import led_to, members_from_head, place_in


def _first_difference(many, sort, other):
    """Return (content, number, number) of the first content that tells two sorts apart, None if none does."""
    one = content_counts(many, sort)
    two = content_counts(many, other)
    apart = [content for content in list(one) + list(two) if one.get(content, 0) != two.get(content, 0)]
    if len(apart) == 0:
        return None
    _, first = min([(sum(content), content) for content in apart])
    return (first, one.get(first, 0), two.get(first, 0))


def _need_sorts(many, sort, other):
    """Raise what two sorts are refused with."""
    need_sort(many, sort)
    need_sort(many, other)


def are_alike(many, sort, other):
    """Whether the two sorts have equally many members of each content."""
    _need_sorts(many, sort, other)
    return content_counts(many, sort) == content_counts(many, other)


def first_apart(many, sort, other):
    """Return (content, number, number) of the first content that tells the sorts apart, None if none does."""
    _need_sorts(many, sort, other)
    return _first_difference(many, sort, other)


def _need_alike_and_few(many, sort, other):
    """Raise what unlike sorts, then a sort with too many members, are refused with."""
    apart = _first_difference(many, sort, other)
    if apart is not None:
        raise Unlike(apart[0])
    need_few(many, sort)


def _heads_by_content(many, sort, low, high):
    """Return a dict: for each content of a head the ascending list of the heads that have it."""
    found = {}
    for member in listed(many, sort):
        if place_in(many, sort, member, low, high)[0] == 0:
            found.setdefault(content_in(many, sort, member), []).append(member)
    return found


def matched(many, sort, other, one, two, member):
    """Return the member of the other sort to which the member is led by the two names."""
    _need_sorts(many, sort, other)
    low, high = need_pair(many, one, two)
    if not holds_member(many, sort, member):
        raise BadMember(member)
    _need_alike_and_few(many, sort, other)
    head = led_to(many, sort, member, low, high, 0)
    content = content_in(many, sort, head)
    at = _heads_by_content(many, sort, low, high)[content].index(head)
    other_head = _heads_by_content(many, other, low, high)[content][at]
    place = place_in(many, sort, member, low, high)[0]
    return led_to(many, other, other_head, low, high, place)


def matching(many, sort, other, one, two):
    """Return the ascending list of the tuples of a member and the one to which it is led."""
    _need_sorts(many, sort, other)
    low, high = need_pair(many, one, two)
    _need_alike_and_few(many, sort, other)
    other_heads = _heads_by_content(many, other, low, high)
    pairs = []
    for content, own_heads in _heads_by_content(many, sort, low, high).items():
        for head, other_head in zip(own_heads, other_heads[content]):
            string = members_from_head(many, sort, head, low, high)
            other_string = members_from_head(many, other, other_head, low, high)
            pairs.extend([(own, led) for own, led in zip(string, other_string)])
    return sorted(pairs)


def _are_members(many, sort, values):
    """Whether some values are members of a sort."""
    return all([holds_member(many, sort, value) for value in values])


def _place_of(found, member):
    """Return the place of a member in the ascending list of all members."""
    least = 0
    behind = len(found)
    while behind - least > 1:
        middle = (least + behind) // 2
        if found[middle] <= member:
            least = middle
        else:
            behind = middle
    return least


def _goes_along(many, sort, other, low, high, pairs):
    """Whether a transfer from LOW to HIGH leads both things of each pair to those of a pair, or neither.

    The first things of the pairs are all members, ascending.
    """
    firsts = [first for first, _ in pairs]
    for first, second in pairs:
        own = moved(many, sort, first, low, high)
        led = moved(many, other, second, low, high)
        if (own is None) != (led is None):
            return False
        if own is not None and pairs[_place_of(firsts, own)][1] != led:
            return False
    return True


def _are_pairs(value):
    """Whether a value is a list or tuple of tuples of two."""
    if not isinstance(value, (list, tuple)):
        return False
    return all([isinstance(thing, tuple) and len(thing) == 2 for thing in value])


def check_matching(many, sort, other, one, two, pairs):
    """Return None if the pairs match the members of the two sorts by the two names."""
    _need_sorts(many, sort, other)
    low, high = need_pair(many, one, two)
    need_few(many, sort)
    need_few(many, other)
    if not _are_pairs(pairs):
        raise BadPaper("pairs")
    # A value may be equal to a member and be none: True and False stand for no name.
    firsts = [first for first, _ in pairs]
    if not _are_members(many, sort, firsts) or firsts != listed(many, sort):
        raise BadPaper("members")
    seconds = [second for _, second in pairs]
    if not _are_members(many, other, seconds) or sorted(seconds) != listed(many, other):
        raise BadPaper("others")
    if not all([content_in(many, sort, first) == content_in(many, other, second) for first, second in pairs]):
        raise BadPaper("content")
    if not _goes_along(many, sort, other, low, high, pairs):
        raise BadPaper("transfer")
