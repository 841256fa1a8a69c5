"""Worths of the names, and sums of the products that contents have at them.

LOW and HIGH are the lesser and the greater one of two names throughout.
"""

from math import comb

from unithouse.counts import content_counts
from unithouse.errors import BadContent, BadTotal, BadWorths
from unithouse.heads import heads
from unithouse.members import need_content
from unithouse.rows import tops_of, with_mark_moved
from unithouse.sorts import (MOST_MARKS, is_below, is_whole, marks_of, need_many, need_pair, need_sort, never_falls,
                             power)

MOST_WORTH = 100


def _are_worths(many, value):
    """Whether a value is a tuple of a worth for each name."""
    if not isinstance(value, tuple) or len(value) != many:
        return False
    return all([is_whole(worth) and abs(worth) <= MOST_WORTH for worth in value])


def need_worths(many, value):
    """Return the value if it is a tuple of worths."""
    need_many(many)
    if not _are_worths(many, value):
        raise BadWorths(value)
    return value


def _need_total(total):
    """Raise BadTotal of what is the sum of no content that a sort has."""
    if not is_below(total, MOST_MARKS + 1):
        raise BadTotal(total)


def _product_of(content, worths):
    """Return the product of a content at worths."""
    product = 1
    for number, worth in zip(content, worths):
        product = product * power(worth, number)
    return product


def product_at(many, content, worths):
    """Return the product of the content at the worths."""
    need_content(many, content)
    need_worths(many, worths)
    return _product_of(content, worths)


def _orders_of(row):
    """Return the list of what comes of a row by all orders, ascending if the row is."""
    if len(row) == 0:
        return [()]
    return [row[at:at + 1] + rest for at in range(len(row)) for rest in _orders_of(row[:at] + row[at + 1:])]


def _even_sum_of(content, worths, unlike):
    """Return the sum of the products over all orders of a content; unlike lets each content count once."""
    contents = _orders_of(content)
    if unlike:
        contents = sorted(set(contents))
    return sum([_product_of(one, worths) for one in contents])


def even_sum(many, content, worths, *, unlike=False):
    """Return the sum of the products over all orders of the content; unlike lets each content count once."""
    need_content(many, content)
    need_worths(many, worths)
    return _even_sum_of(content, worths, unlike)


def _need_sort_and_worths(many, sort, worths):
    """Raise what a sort and worths are refused with."""
    need_sort(many, sort)
    need_worths(many, worths)


def sums_by_total(many, sort, worths):
    """Return the list of the sums of the products over the members whose contents have the sum 0, 1, .."""
    _need_sort_and_worths(many, sort, worths)
    sums = [0] * (marks_of(many, sort) + 1)
    for content, count in content_counts(many, sort).items():
        sums[sum(content)] += count * _product_of(content, worths)
    return sums


def sum_at(many, sort, worths):
    """Return the sum of the products over all members."""
    return sum(sums_by_total(many, sort, worths))


def content_terms(many, sort, worths):
    """Return the ascending list of tuples (content, count, value) of the contents of members that never ascend."""
    _need_sort_and_worths(many, sort, worths)
    return [(content, count, _even_sum_of(content, worths, True))
            for content, count in content_counts(many, sort).items() if never_falls(content[::-1])]


def _string_sum(head, low, high, worths):
    """Return the sum of the products over the members of a string whose head has a content."""
    total = 0
    content = head
    for _ in range(head[low] - head[high] + 1):
        total += _product_of(content, worths)
        content = with_mark_moved(content, low, high)
    return total


def string_terms(many, sort, first, second, worths):
    """Return the ascending list of tuples (content, count, value) of the contents that heads have."""
    counted = heads(many, sort, first, second)
    low, high = need_pair(many, first, second)
    need_worths(many, worths)
    return [(content, count, _string_sum(content, low, high, worths)) for content, count in counted]


def head_sum(many, sort, first, second, worths):
    """Return the sum of the products over all heads."""
    counted = heads(many, sort, first, second)
    need_worths(many, worths)
    return sum([count * _product_of(content, worths) for content, count in counted])


def flat_sort(many, total):
    """Return the sort of subsets of all names, and one of the rest, with so many marks."""
    need_many(many)
    _need_total(total)
    size, rest = divmod(total, many)
    return ("pair", ("list", size, ("subset", many)), ("subset", rest))


def _transfer_term(content, giver, taker, worths):
    """Return the term of a transfer, worths being those that the names have by an order."""
    own = worths[giver]
    other = worths[taker]
    rest = list(content)
    rest[giver] = 0
    rest[taker] = 0
    least = content[taker]
    more = content[giver] - least - 1
    both = _product_of(rest, worths) * power(own * other, least)
    return both * (power(own, more) - power(other, more)) * (own - other)


def transfer_terms(many, content, giver, taker, worths):
    """Return the ascending list of tuples (order, term) of what a transfer takes from the even sum."""
    need_content(many, content)
    need_pair(many, giver, taker)
    need_worths(many, worths)
    if content[giver] <= content[taker]:
        raise BadContent(content)
    return [(order, _transfer_term(content, giver, taker, [worths[at] for at in order]))
            for order in _orders_of(tuple(range(many))) if order[giver] < order[taker]]


def _need_same_sum(content, other):
    """Raise BadTotal of the other content if the sums are unlike."""
    if sum(content) != sum(other):
        raise BadTotal(sum(other))


def parting_worths(many, content, other):
    """Return (K, worths) at which the content has the greater even sum, None if there are no such worths."""
    need_content(many, content)
    need_content(many, other)
    _need_same_sum(content, other)
    own = tops_of(content)
    others = tops_of(other)
    for size in range(1, many):
        if own[size] > others[size]:
            return (size, (comb(many, size) + 1,) * size + (1,) * (many - size))
    return None


def is_parting(many, content, other, worths):
    """Whether the content has the greater even sum at the worths, none of which is below 0."""
    need_content(many, content)
    need_content(many, other)
    if min(need_worths(many, worths)) < 0:
        raise BadWorths(worths)
    _need_same_sum(content, other)
    return _even_sum_of(content, worths, False) > _even_sum_of(other, worths, False)


def _falling_rows(size, total, most):
    """Return the ascending list of the rows of so many numbers up to most that never ascend and have a sum."""
    if size == 0:
        return [()] if total == 0 else []
    return [(first,) + rest for first in range(min(total, most) + 1)
            for rest in _falling_rows(size - 1, total - first, first)]


def _worths_up_to(many, total):
    """Return the list of the worths from 0 that never ascend and have at most a sum, by sum, then ascending."""
    return [worths for one in range(total + 1) for worths in _falling_rows(many, one, one)]


def test_worths(many, total):
    """Return the list of the worths from 0 that never ascend and sum to at most the total."""
    need_many(many)
    _need_total(total)
    return _worths_up_to(many, total)


def _differences(one, other):
    """Return the list of tuples (content, number) of the contents that two dicts do not count alike."""
    found = {content: number for content, number in one.items()}
    for content, number in other.items():
        found[content] = found.get(content, 0) - number
    return [(content, number) for content, number in found.items() if number != 0]


def telling_worths(many, sort, other):
    """Return the first ones of the test worths at which the sums of two sorts differ, None if there are none."""
    need_sort(many, sort)
    need_sort(many, other)
    apart = _differences(content_counts(many, sort), content_counts(many, other))
    for worths in _worths_up_to(many, max(marks_of(many, sort), marks_of(many, other))):
        if sum([number * _product_of(content, worths) for content, number in apart]) != 0:
            return worths
    return None
