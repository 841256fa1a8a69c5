"""The last name taken out: members of sorts over one name less that correspond to those of a sort.

LAST is the greatest name, the *share* of a thing is how many marks it has of LAST, and its *rest*
is the member, over one name less, that corresponds to it.
"""

from unithouse.chains import in_chain, out_of_chain
from unithouse.codes import code_member, code_sort, of_code_member
from unithouse.counts import count_at
from unithouse.errors import BadMany, BadMember, BadTotal
from unithouse.members import MOST_OF_A_NAME, holds_member, need_content, need_member, pairs_of_names
from unithouse.shares import NONE, ONE, list_sorts_by_size, share_splits, taken_sorts
from unithouse.sorts import is_below, need_many, need_sort

LEAST_TAKEN_FROM = 3


def _sorts_taken(many, sort):
    """Return the dict of the sorts T of a sort by all shares."""
    return taken_sorts(many, sort, MOST_OF_A_NAME)


def _sides_with(many, sort, share):
    """Return the list of the sides of an either that have a share."""
    return [side for side in range(2) if share in _sorts_taken(many, sort[1 + side])]


def _joined(first, second, own, behind):
    """Return the (share, rest) of a pair, by the dicts of sorts and the (share, rest) of both things."""
    share = own[0] + behind[0]
    ways = share_splits(first, second, share)
    return (share, in_chain(ways.index(own[0]), len(ways), (own[1], behind[1])))


def _is_of_names(sort):
    """Whether a sort is a subset, a bag or a list of names."""
    return sort[0] in ("subset", "bag") or (sort[0] == "list" and sort[2] == ONE)


def _apart_list(many, sort, member):
    """Return the (share, rest) of a list of what is not one: it is a pair of its first thing and the others."""
    _, size, part = sort
    inner = _sorts_taken(many, part)
    by_size = list_sorts_by_size(size, inner, MOST_OF_A_NAME)
    led = (0, ())
    for behind, thing in enumerate(member[::-1]):
        own = _apart(many, part, thing)
        if own[0] + led[0] == 0:
            led = (0, (own[1],) + led[1])
        else:
            led = _joined(inner, by_size[behind], own, led)
    return led


def _apart_names(many, sort, member):
    """Return the (share, rest) of a subset, a bag or a list of names."""
    last = many - 1
    share = member.count(last)
    others = tuple([name for name in member if name != last])
    if sort[0] != "list" or share == 0:
        return (share, others)
    places = [in_chain(at, len(member), ()) for at, name in enumerate(member) if name == last]
    return (share, (tuple(places), others))


def _apart_row(many, sort, member):
    """Return the (share, rest) of a family or a heap."""
    things = [_apart(many, sort[2], thing) for thing in member]
    without = sorted([rest for share, rest in things if share == 0])
    having = sorted([rest for share, rest in things if share == 1])
    return (len(having), (tuple(without), tuple(having)))


def _apart_rounds(many, sort, member):
    """Return the (share, rest) of a member of rounds."""
    last = many - 1
    others = []
    lost = []
    for pair, won in zip(pairs_of_names(many), member):
        if pair[1] == last:
            lost.extend([in_chain(at, len(won), name) for at, name in enumerate(won) if name != last])
        else:
            others.append(won)
    share = sort[1] * last - len(lost)
    return (share, (tuple(others), tuple(sorted(lost))))


def _apart(many, sort, member):
    """Return the (share, rest) of a member."""
    word = sort[0]
    if word == "one":
        return (1, ()) if member == many - 1 else (0, member)
    if _is_of_names(sort):
        return _apart_names(many, sort, member)
    if word == "either":
        side, thing = member
        share, rest = _apart(many, sort[1 + side], thing)
        sides = _sides_with(many, sort, share)
        return (share, in_chain(sides.index(side), len(sides), rest))
    if word == "pair":
        own, behind = [_apart(many, sort[1 + at], member[at]) for at in range(2)]
        return _joined(_sorts_taken(many, sort[1]), _sorts_taken(many, sort[2]), own, behind)
    if word == "list":
        return _apart_list(many, sort, member)
    if word in ("family", "heap"):
        return _apart_row(many, sort, member)
    if word == "rounds":
        return _apart_rounds(many, sort, member)
    return _apart(many, code_sort(many, sort), code_member(many, sort, member))


def _split_again(first, second, share, rest):
    """Return the pair of the (share, rest) of both things of a pair, by their dicts of sorts."""
    ways = share_splits(first, second, share)
    place, things = out_of_chain(len(ways), rest)
    own = ways[place]
    return ((own, things[0]), (share - own, things[1]))


def _back_list(many, sort, share, rest):
    """Return the list of what is not one that has a share and a rest."""
    _, size, part = sort
    inner = _sorts_taken(many, part)
    by_size = list_sorts_by_size(size, inner, MOST_OF_A_NAME)
    found = []
    left = (share, rest)
    while left[0] > 0:
        behind = size - len(found) - 1
        own, left = _split_again(inner, by_size[behind], left[0], left[1])
        found.append(_back(many, part, own[0], own[1]))
    return tuple(found + [_back(many, part, 0, thing) for thing in left[1]])


def _back_names(many, sort, share, rest):
    """Return the subset, bag or list of names that has a share and a rest."""
    last = many - 1
    if sort[0] != "list":
        return rest + (last,) * share
    if share == 0:
        return rest
    places = [out_of_chain(sort[1], thing)[0] for thing in rest[0]]
    found = list(rest[1])
    for at in places:
        found.insert(at, last)
    return tuple(found)


def _back_row(many, sort, rest):
    """Return the family or heap that has a rest."""
    things = [_back(many, sort[2], share, thing) for share in range(2) for thing in rest[share]]
    return tuple(sorted(things))


def _back_rounds(many, sort, rest):
    """Return the member of rounds that has a rest."""
    last = many - 1
    meetings = sort[1]
    lost = [out_of_chain(meetings, thing) for thing in rest[1]]
    others = {pair: won for pair, won in zip(pairs_of_names(last), rest[0])}
    for name in range(last):
        others[(name, last)] = tuple([name if (at, name) in lost else last for at in range(meetings)])
    return tuple([others[pair] for pair in pairs_of_names(many)])


def _back(many, sort, share, rest):
    """Return the member that has a share and a rest."""
    word = sort[0]
    if word == "one":
        return rest if share == 0 else many - 1
    if _is_of_names(sort):
        return _back_names(many, sort, share, rest)
    if word == "either":
        sides = _sides_with(many, sort, share)
        place, thing = out_of_chain(len(sides), rest)
        return (sides[place], _back(many, sort[1 + sides[place]], share, thing))
    if word == "pair":
        both = _split_again(_sorts_taken(many, sort[1]), _sorts_taken(many, sort[2]), share, rest)
        return tuple([_back(many, sort[1 + at], both[at][0], both[at][1]) for at in range(2)])
    if word == "list":
        return _back_list(many, sort, share, rest)
    if word in ("family", "heap"):
        return _back_row(many, sort, rest)
    if word == "rounds":
        return _back_rounds(many, sort, rest)
    return of_code_member(many, sort, _back(many, code_sort(many, sort), share, rest))


def _need_taken_from(many, sort):
    """Raise what a number of names is refused with from which none can be taken, then the sort."""
    need_many(many)
    if many < LEAST_TAKEN_FROM:
        raise BadMany(many)
    need_sort(many, sort)


def taken_out(many, sort, marks):
    """Return the sort T over one name less for the members that have so many marks of LAST."""
    _need_taken_from(many, sort)
    if not is_below(marks, MOST_OF_A_NAME + 1):
        raise BadTotal(marks)
    return need_sort(many - 1, _sorts_taken(many, sort).get(marks, NONE))


def last_marks(many, sort):
    """Return the ascending list of the numbers of marks of LAST for which T is not just none."""
    _need_taken_from(many, sort)
    return sorted(list(_sorts_taken(many, sort)))


def taken_apart(many, sort, member):
    """Return the tuple of the marks that the member has of LAST and of its rest."""
    _need_taken_from(many, sort)
    need_member(many, sort, member)
    share, rest = _apart(many, sort, member)
    taken_out(many, sort, share)
    return (share, rest)


def put_back(many, sort, marks, rest):
    """Return the member with so many marks of LAST that has the rest."""
    told = taken_out(many, sort, marks)
    if not holds_member(many - 1, told, rest):
        raise BadMember(rest)
    return _back(many, sort, marks, rest)


def counted_out(many, sort, content):
    """Return how many members have the content, the names taken out one after the other."""
    _need_taken_from(many, sort)
    need_content(many, content)
    left = sort
    for names in range(many, 2, -1):
        left = taken_out(names, left, content[names - 1])
    return count_at(2, left, content[:2])
