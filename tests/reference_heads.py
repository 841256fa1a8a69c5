"""The heads of a sort as point 24 says it, and the counts of contents that come of them, for the tests."""

from collections import Counter
from itertools import combinations
from math import comb

from tests import reference


def heads(many, sort, low, high):
    """Return a Counter: how many heads have each (content, length)."""
    word = sort[0]
    if word == "none":
        return Counter()
    if word == "one":
        return Counter((mark(many, name), int(name == low)) for name in range(many) if name != high)
    if word == "subset":
        return Counter((mark(many, *member), int(low in member and high not in member))
                       for member in reference.all_members(many, sort) if high not in member or low in member)
    if word == "bag":
        return Counter((mark(many, *member), member.count(low))
                       for member in reference.all_members(many, sort) if high not in member)
    if word == "either":
        return heads(many, sort[1], low, high) + heads(many, sort[2], low, high)
    if word == "pair":
        return joined(heads(many, sort[1], low, high), heads(many, sort[2], low, high), low, high)
    if word == "list":
        found = Counter({((0,) * many, 0): 1})
        for _ in range(sort[1]):
            found = joined(found, heads(many, sort[2], low, high), low, high)
        return found
    if word in ("family", "heap"):
        return of_rows(many, sort, low, high)
    if word == "rounds":
        return of_rounds(many, sort[1], low, high)
    return of_codes(many, sort, low, high)


def mark(many, *names):
    """Return the content with one mark for each time a name is passed."""
    return tuple(names.count(name) for name in range(many))


def plus(one, other):
    return tuple(a + b for a, b in zip(one, other))


def joined(one, other, low, high):
    """Return the heads of the pairs of what has some heads and what has others."""
    found = Counter()
    for (left, a), times in one.items():
        for (right, b), number in other.items():
            both = plus(left, right)
            for q in range(min(a, b) + 1):
                content = list(both)
                content[low] -= q
                content[high] += q
                found[(tuple(content), a + b - 2 * q)] += times * number
    return found


def of_rows(many, sort, low, high):
    """Return the heads of a family or a heap: its parts joined, and what has so many things."""
    word, size, part = sort
    if size == 0:
        return Counter({((0,) * many, 0): 1})
    sized = [Counter({((0,) * many, 0): 1})] + [Counter() for _ in range(size)]
    for heads_of_size in row_parts(many, word, size, part, low, high):
        sized = [sum((joined(sized[ahead - own], heads_of_size[own], low, high)
                      for own in range(ahead + 1) if own in heads_of_size), Counter())
                 for ahead in range(size + 1)]
    return sized[size]


def row_parts(many, word, size, part, low, high):
    """Yield a dict for each part: how many things it gives, and the heads that have so many."""
    zeros = (0,) * many
    for thing in reference.all_members(many, part):
        content = reference.content(many, part, thing)
        if content[low] == content[high]:
            most = 1 if word == "family" else size
            yield {times: Counter({(tuple(times * number for number in content), 0): 1}) for times in range(most + 1)}
        elif content[low] and word == "heap":
            yield {times: Counter({(tuple(times * number for number in content), times): 1})
                   for times in range(size + 1)}
        elif content[low]:
            both = plus(content, content)
            both = tuple(number - 1 if name == low else number + 1 if name == high else number
                         for name, number in enumerate(both))
            yield {0: Counter({(zeros, 0): 1}), 1: Counter({(content, 1): 1}), 2: Counter({(both, 0): 1})}


def of_rounds(many, meetings, low, high):
    found = Counter({((0,) * many, 0): 1})
    for _ in range(meetings):
        found = joined(found, Counter({(mark(many, low), 1): 1}), low, high)
        for name in range(many):
            if name not in (low, high):
                found = joined(found, Counter({(mark(many, low, high), 0): 1, (mark(many, low, name), 1): 1,
                                               (mark(many, name, name), 0): 1}), low, high)
        for one, other in combinations([name for name in range(many) if name not in (low, high)], 2):
            found = joined(found, Counter({(mark(many, one), 0): 1, (mark(many, other), 0): 1}), low, high)
    return found


def of_codes(many, sort, low, high):
    if sort[0] == "rooted":
        return heads(many, ("list", many - 1, ("one",)), low, high)
    letters = heads(many, ("list", many - 2, ("one",)), low, high)
    return Counter({(plus(content, (1,) * many), length): count for (content, length), count in letters.items()})


def counts_by_strings(many, sort, low, high):
    """Return a Counter: how many members have each content, each string with one member for each place."""
    found = Counter()
    for (content, length), number in heads(many, sort, low, high).items():
        for place in range(length + 1):
            here = list(content)
            here[low] -= place
            here[high] += place
            found[tuple(here)] += number
    return found


def multinomial(numbers):
    """Return in how many orders things of some kinds stand, numbers being how many of each kind there are."""
    found, left = 1, sum(numbers)
    for number in numbers:
        found *= comb(left, number)
        left -= number
    return found
