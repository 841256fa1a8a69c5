"""How many strings of each kind a sort has for two names, worked out from the sort alone.

LOW and HIGH are the lesser and the greater one of the two names throughout.
"""

from unithouse.counts import content_counts, need_content_and_pair
from unithouse.rows import with_mark_moved, with_names_exchanged
from unithouse.sorts import need_pair, need_sort


def _heads_at(counted, content, low, high):
    """Return how many heads have a content with at least as many marks of LOW as of HIGH.

    Each member with this content stands in one string, and is its head unless the string has a
    member with one mark of LOW more and one of HIGH less.
    """
    return counted.get(content, 0) - counted.get(with_mark_moved(content, high, low), 0)


def _head_counts(many, sort, low, high):
    """Return a dict: for each content of a head, ascending, how many heads have it."""
    counted = content_counts(many, sort)
    found = {}
    for content in counted:
        if content[low] >= content[high]:
            number = _heads_at(counted, content, low, high)
            if number > 0:
                found[content] = number
    return found


def heads(many, sort, one, other):
    """Return the ascending list of tuples (content, count) of the contents that heads have."""
    need_sort(many, sort)
    low, high = need_pair(many, one, other)
    return list(_head_counts(many, sort, low, high).items())


def lengths(many, sort, one, other):
    """Return a dict: for each length of a string, ascending, how many strings have it."""
    need_sort(many, sort)
    low, high = need_pair(many, one, other)
    numbers = {}
    for content, number in _head_counts(many, sort, low, high).items():
        length = content[low] - content[high]
        numbers[length] = numbers.get(length, 0) + number
    return {length: numbers[length] for length in sorted(list(numbers))}


def string_count(many, sort, one, other):
    """Return the number of all strings."""
    need_sort(many, sort)
    low, high = need_pair(many, one, other)
    return sum(list(_head_counts(many, sort, low, high).values()))


def strings_at(many, sort, content, one, other):
    """Return a dict: for each length of a string with a member of the content, how many there are."""
    low, high = need_content_and_pair(many, sort, content, one, other)
    counted = content_counts(many, sort)
    found = {}
    head = content
    if head[low] < head[high]:
        # A string with this content has the one with the two numbers exchanged, too.
        head = with_names_exchanged(content, low, high)
    while head[high] >= 0:
        number = _heads_at(counted, head, low, high)
        if number > 0:
            found[head[low] - head[high]] = number
        head = with_mark_moved(head, high, low)
    return found
