"""T(S, J) and the rests as points 35 to 37 say them, line by line, for the tests to compare with."""

from functools import lru_cache

from tests import reference

NONE, ONE, EMPTY = ("none",), ("one",), ("subset", 0)


def SUM(*sorts):
    left = [sort for sort in sorts if sort != NONE]
    if not left:
        return NONE
    if len(left) == 1:
        return left[0]
    return ("either", left[0], SUM(*left[1:]))


def PAIR(one, other):
    return NONE if NONE in (one, other) else ("pair", one, other)


def ROW(word, size, part):
    return NONE if part == NONE and size != 0 else (word, size, part)


def in_sum(place, count, member):
    """Return the member of a SUM of so many that is a member of the one at a place."""
    if count == 1:
        return member
    if place == 0:
        return (0, member)
    return (1, in_sum(place - 1, count - 1, member))


def as_codes(many, sort):
    if sort[0] == "trees":
        return ("pair", ("subset", many), ("list", many - 2, ONE))
    return ("list", many - 1, ONE)


@lru_cache(maxsize=None)
def T(many, sort, j):
    word = sort[0]
    if word == "none":
        return NONE
    if word == "one":
        return {0: ONE, 1: EMPTY}.get(j, NONE)
    if word == "subset":
        size = sort[1]
        if j == 0 and size <= many - 1:
            return ("subset", size)
        return ("subset", size - 1) if j == 1 and 1 <= size <= many else NONE
    if word == "bag":
        return ("bag", sort[1] - j) if j <= sort[1] else NONE
    if word == "either":
        return SUM(T(many, sort[1], j), T(many, sort[2], j))
    if word == "pair":
        return SUM(*[PAIR(T(many, sort[1], i), T(many, sort[2], j - i)) for i in range(j + 1)])
    if word == "list":
        return list_sort(many, sort[1], sort[2], j)
    if word in ("family", "heap"):
        size, part = sort[1:]
        if j > size:
            return NONE
        return PAIR(ROW(word, size - j, T(many, part, 0)), ROW(word, j, T(many, part, 1)))
    if word == "rounds":
        size = sort[1]
        lost = ONE if size == 1 else ("either", ONE, ONE)
        own = size * (many - 1)
        return ("pair", ("rounds", size), ("family", own - j, lost)) if j <= own else NONE
    return T(many, as_codes(many, sort), j)


def list_sort(many, size, part, j):
    if j == 0:
        inner = T(many, part, 0)
        return NONE if size != 0 and inner == NONE else ("list", size, inner)
    if part == ONE:
        if j > size:
            return NONE
        return ("pair", ("family", j, SUM(*[EMPTY] * size)), ("list", size - j, ONE))
    if size == 0:
        return NONE
    rest = ("list", size - 1, part)
    return SUM(*[PAIR(T(many, part, i), T(many, rest, j - i)) for i in range(j + 1)])


def share(many, sort, member):
    return reference.content(many, sort, member)[many - 1]


def rest(many, sort, member):
    word, last = sort[0], many - 1
    j = share(many, sort, member)
    if word == "one":
        return () if member == last else member
    if word in ("subset", "bag"):
        return tuple(name for name in member if name != last)
    if word == "either":
        kinds = [T(many, part, j) for part in sort[1:]]
        left = [side for side in range(2) if kinds[side] != NONE]
        return in_sum(left.index(member[0]), len(left), rest(many, sort[1 + member[0]], member[1]))
    if word == "pair":
        kinds = [PAIR(T(many, sort[1], i), T(many, sort[2], j - i)) for i in range(j + 1)]
        left = [i for i in range(j + 1) if kinds[i] != NONE]
        both = (rest(many, sort[1], member[0]), rest(many, sort[2], member[1]))
        return in_sum(left.index(share(many, sort[1], member[0])), len(left), both)
    if word == "list":
        return list_rest(many, sort, member, j)
    if word in ("family", "heap"):
        things = [(share(many, sort[2], thing), rest(many, sort[2], thing)) for thing in member]
        return tuple(tuple(sorted(thing for own, thing in things if own == which)) for which in range(2))
    if word == "rounds":
        return rounds_rest(many, sort[1], member)
    code_of = reference.tree_code if word == "trees" else reference.rooted_code
    code = code_of(many, member)
    return rest(many, as_codes(many, sort), (tuple(range(many)), code) if word == "trees" else code)


def list_rest(many, sort, member, j):
    size, part = sort[1:]
    if j == 0:
        return tuple(rest(many, part, thing) for thing in member)
    if part == ONE:
        places = tuple(in_sum(at, size, ()) for at in range(size) if member[at] == many - 1)
        return (places, tuple(name for name in member if name != many - 1))
    return rest(many, ("pair", part, ("list", size - 1, part)), (member[0], member[1:]))


def rounds_rest(many, meetings, member):
    pairs = [(one, other) for one in range(many) for other in range(one + 1, many)]
    others = tuple(won for pair, won in zip(pairs, member) if many - 1 not in pair)
    lost = [(at, pair[0]) for pair, won in zip(pairs, member) if many - 1 in pair
            for at in range(meetings) if won[at] != many - 1]
    return (others, tuple(sorted(name if meetings == 1 else (at, name) for at, name in lost)))
