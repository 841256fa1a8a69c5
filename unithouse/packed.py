"""Contents packed into integers, and dicts that tell how often each packed content stands.

A content is packed into the integer that has its numbers as digits: the sum of two contents is
packed into the sum of their integers, and contents ascend as these do. These functions trust what
they are passed; no dict that they are passed is changed.
"""

from math import comb

from unithouse.digits import digits_of, with_digits
from unithouse.sorts import heaps_of, power

# The sum of two contents has up to 48 marks of a name: a digit never grows into the next one.
BASE = 64

ZEROS = 0


def packed(content):
    """Return the integer into which a content is packed."""
    return with_digits(content, BASE)


def unpacked(many, number):
    """Return the tuple of numbers that is packed into an integer."""
    return digits_of(number, BASE, many)


def one_mark(many, name):
    """Return the packed content that has one mark, of this name."""
    return power(BASE, many - 1 - name)


def added(one, other):
    """Return how often each content stands in both together."""
    found = {content: number for content, number in one.items()}
    for content, number in other.items():
        found[content] = found.get(content, 0) + number
    return found


def multiplied(one, other):
    """Return how often each content comes as the sum of one of each."""
    found = {}
    for left, times in one.items():
        for right, number in other.items():
            content = left + right
            found[content] = found.get(content, 0) + times * number
    return found


def multiplied_often(counted, times):
    """Return how often each content comes as the sum of so many in a row."""
    product = {ZEROS: 1}
    for _ in range(times):
        product = multiplied(product, counted)
    return product


def _take_more(levels, content, ways):
    """Let the levels tell, too, what comes if things of one more content are taken.

    The level numbered S tells how often each content comes of S things; ways has the tuples
    (K, W), W being in how many ways K things of this content are taken. Levels of more things are
    done first, so that what is added to one is not met again.
    """
    for size in range(len(levels) - 2, -1, -1):
        for old, number in list(levels[size].items()):
            for more, times in ways:
                if size + more < len(levels):
                    new = old + more * content
                    levels[size + more][new] = levels[size + more].get(new, 0) + number * times


def _ways(kinds, more, alike):
    """Return in how many ways so many things are taken of some kinds."""
    if alike:
        return heaps_of(kinds, more)
    return comb(kinds, more)


def taken(counted, size, alike):
    """Return how often each content comes as the sum of so many things taken without order.

    Each content stands for as many things as it is counted; alike tells whether a thing may be
    taken more than once.
    """
    levels = [{ZEROS: 1}] + [{} for _ in range(size)]
    for content, kinds in counted.items():
        ways = [(more, _ways(kinds, more, alike)) for more in range(1, size + 1)]
        _take_more(levels, content, [(more, times) for more, times in ways if times > 0])
    return levels[size]
