"""The sorts over one name less that tell of a sort by the marks of its last name.

LAST is the greatest name. A *share* is how many marks of LAST a member or a thing in one has:
`taken_sorts` tells which shares there are, and the sort T of each. These functions trust what they
are passed.
"""

from unithouse.chains import chain_of
from unithouse.codes import code_sort

NONE = ("none",)
ONE = ("one",)
EMPTY = ("subset", 0)


def _sum_of(sorts):
    """Return the SUM of some sorts."""
    left = [sort for sort in sorts if sort != NONE]
    if len(left) == 0:
        return NONE
    return chain_of(left)


def _pair_of(one, other):
    """Return the PAIR of two sorts."""
    if NONE in (one, other):
        return NONE
    return ("pair", one, other)


def _row_of(word, size, part):
    """Return the FAMILY or the HEAP of so many things of a sort."""
    if part == NONE and size != 0:
        return NONE
    return (word, size, part)


def _without_none(sorts):
    """Return a dict of sorts without those that are none."""
    return {share: sort for share, sort in sorts.items() if sort != NONE}


def share_splits(first, second, share):
    """Return the ascending list of what the first of two things may have of a share, by the sorts of both."""
    return [own for own in range(share + 1) if own in first and share - own in second]


def _subset_sorts(many, size):
    """Return the dict of the sorts of a subset."""
    found = {}
    if size <= many - 1:
        found[0] = ("subset", size)
    if 1 <= size <= many:
        found[1] = ("subset", size - 1)
    return found


def _pair_sorts(first, second, most):
    """Return the dict of the sorts of a pair, by those of both things."""
    found = {}
    for share in range(most + 1):
        pairs = [("pair", first[own], second[share - own]) for own in share_splits(first, second, share)]
        found[share] = _sum_of(pairs)
    return _without_none(found)


def list_sorts_by_size(size, inner, most):
    """Return the list of the dicts of the sorts of lists of 0, 1, .. things, by that of what they are lists of.

    This is not one: the lists of names are told in another way.
    """
    found = [{0: ("list", 0, inner.get(0, NONE))}]
    for longer in range(1, size + 1):
        longer_sorts = _pair_sorts(inner, found[-1], most)
        if 0 in inner:
            longer_sorts[0] = ("list", longer, inner[0])
        found.append(longer_sorts)
    return found


def _list_sorts(many, size, part, most):
    """Return the dict of the sorts of a list."""
    if size == 0:
        # The part may pass the bounds on marks and width there.
        return {0: ("list", 0, taken_sorts(many, part, 0).get(0, NONE))}
    if part != ONE:
        return list_sorts_by_size(size, taken_sorts(many, part, most), most)[-1]
    places = chain_of([EMPTY] * size)
    found = {0: ("list", size, ONE)}
    for share in range(1, min(size, most) + 1):
        found[share] = ("pair", ("family", share, places), ("list", size - share, ONE))
    return found


def _row_sorts(many, word, size, part, most):
    """Return the dict of the sorts of a family or a heap."""
    inner = taken_sorts(many, part, 1)
    without = inner.get(0, NONE)
    having = inner.get(1, NONE)
    found = {share: _pair_of(_row_of(word, size - share, without), _row_of(word, share, having))
             for share in range(min(size, most) + 1)}
    return _without_none(found)


def _rounds_sorts(many, meetings, most):
    """Return the dict of the sorts of rounds."""
    lost = chain_of([ONE] * meetings)
    own = meetings * (many - 1)
    return {share: ("pair", ("rounds", meetings), ("family", own - share, lost))
            for share in range(min(own, most) + 1)}


def taken_sorts(many, sort, most):
    """Return a dict: for each share up to most the sort T of a sort, where this is not just none.

    It may tell of a greater share, too.
    """
    word = sort[0]
    if word == "none":
        return {}
    if word == "one":
        return {0: ONE, 1: EMPTY}
    if word == "subset":
        return _subset_sorts(many, sort[1])
    if word == "bag":
        return {share: ("bag", sort[1] - share) for share in range(min(sort[1], most) + 1)}
    if word == "either":
        first = taken_sorts(many, sort[1], most)
        second = taken_sorts(many, sort[2], most)
        found = {share: _sum_of([first.get(share, NONE), second.get(share, NONE)]) for share in range(most + 1)}
        return _without_none(found)
    if word == "pair":
        return _pair_sorts(taken_sorts(many, sort[1], most), taken_sorts(many, sort[2], most), most)
    if word == "list":
        return _list_sorts(many, sort[1], sort[2], most)
    if word in ("family", "heap"):
        return _row_sorts(many, word, sort[1], sort[2], most)
    if word == "rounds":
        return _rounds_sorts(many, sort[1], most)
    return taken_sorts(many, code_sort(many, sort), most)
