"""Orders of the names, lines, roots and kin of the members of plain sorts.

A transfer or an exchange of neighbours is told by its lesser name LOW throughout; the other one
is LOW + 1.
"""

from unithouse.codes import code_in
from unithouse.errors import BadMember, BadSort, BadWay, Unlike
from unithouse.listing import listed, need_few
from unithouse.members import content_in, holds_member, need_member, things_in
from unithouse.readings import moved
from unithouse.sorts import is_below, is_name, need_many, need_sort, parts_in
from unithouse.strings import exchanged_pair

MOST_LOWS = 60


def _paths_not_plain(sort):
    """Return the list of the paths of the parts that no plain sort has."""
    return [path for path, part in parts_in(sort) if part[0] in ("family", "heap", "rounds")]


def need_plain(many, sort):
    """Raise what a sort that is none, or is not plain, is refused with."""
    need_sort(many, sort)
    paths = _paths_not_plain(sort)
    if len(paths) > 0:
        raise BadSort(paths[0])


def need_plain_member(many, sort, member):
    """Raise what a sort that is not plain, then what is no member of it, is refused with."""
    need_plain(many, sort)
    if not holds_member(many, sort, member):
        raise BadMember(member)


def is_plain(many, sort):
    """Whether the sort is plain."""
    need_sort(many, sort)
    return len(_paths_not_plain(sort)) == 0


def line_in(many, sort, member):
    """Return the line of a checked member of a plain sort."""
    word = sort[0]
    if word == "one":
        return (member,)
    if word == "subset":
        return member
    if word == "bag":
        return member[::-1]
    if word in ("trees", "rooted"):
        return code_in(many, sort, member)
    return tuple([name for part, thing in things_in(sort, member) for name in line_in(many, part, thing)])


def line_of(many, sort, member):
    """Return the line of the member."""
    need_plain_member(many, sort, member)
    return line_in(many, sort, member)


def need_lows(many, lows):
    """Raise BadWay of what is no ROW."""
    if not isinstance(lows, tuple):
        raise BadWay(0)
    if len(lows) > MOST_LOWS:
        raise BadWay(MOST_LOWS)
    for place, low in enumerate(lows):
        if not is_below(low, many - 1):
            raise BadWay(place)


def need_order(many, order):
    """Raise BadWay of what is no ORDER."""
    if not isinstance(order, tuple) or len(order) != many:
        raise BadWay(0)
    for place, name in enumerate(order):
        if not is_name(many, name) or name in order[:place]:
            raise BadWay(place)


def _order_behind(order, low):
    """Return the ORDER that comes if those who stand at LOW and LOW + 1 change places."""
    behind = list(order)
    behind[order.index(low)] = low + 1
    behind[order.index(low + 1)] = low
    return tuple(behind)


def _least_row(order):
    """Return a ROW of an ORDER with the fewest things.

    Names that stand side by side, the one ahead with the greater goal, change places until none
    are left: each time just one pair of names gets from the wrong order into the right one.
    """
    goals = list(order)
    lows = []
    falls = [low for low in range(len(goals) - 1) if goals[low] > goals[low + 1]]
    while len(falls) > 0:
        low = falls[0]
        goals[low], goals[low + 1] = goals[low + 1], goals[low]
        lows.append(low)
        falls = [at for at in range(len(goals) - 1) if goals[at] > goals[at + 1]]
    return tuple(lows)


def _led_by_exchanges(many, sort, member, lows):
    """Return a member with neighbours exchanged in turn."""
    led = member
    for low in lows:
        led = exchanged_pair(many, sort, led, low, low + 1)
    return led


def exchanged(many, sort, member, lows):
    """Return the member exchanged by the ROW lows."""
    need_member(many, sort, member)
    need_lows(many, lows)
    return _led_by_exchanges(many, sort, member, lows)


def order_of(many, lows):
    """Return the ORDER of the ROW lows."""
    need_many(many)
    need_lows(many, lows)
    order = tuple(range(many))
    for low in lows:
        order = _order_behind(order, low)
    return order


def lows_to(many, order):
    """Return a ROW of the ORDER with the fewest things."""
    need_many(many)
    need_order(many, order)
    return _least_row(order)


def ordered(many, sort, member, order):
    """Return the member exchanged by any ROW of the ORDER."""
    need_plain_member(many, sort, member)
    need_order(many, order)
    return _led_by_exchanges(many, sort, member, _least_row(order))


def all_orders(many, sort, member):
    """Return the tuple of the pairs (ORDER, member exchanged), all ORDERS ascending."""
    need_plain_member(many, sort, member)
    start = tuple(range(many))
    found = {start: member}
    waiting = [start]
    while len(waiting) > 0:
        order = waiting.pop()
        for low in range(many - 1):
            behind = _order_behind(order, low)
            if behind not in found:
                found[behind] = exchanged_pair(many, sort, found[order], low, low + 1)
                waiting.append(behind)
    return tuple([(order, found[order]) for order in sorted(list(found))])


def _step_back(many, sort, member):
    """Return (LOW, member) of the least LOW with a transfer from LOW + 1 to it, None if there is none."""
    for low in range(many - 1):
        led = moved(many, sort, member, low + 1, low)
        if led is not None:
            return (low, led)
    return None


def _walk_back(many, sort, member):
    """Return the pair of the tuple of the LOWs that lead to the root, and the root."""
    lows = []
    root = member
    step = _step_back(many, sort, member)
    while step is not None:
        low, root = step
        lows.append(low)
        step = _step_back(many, sort, root)
    return (tuple(lows), root)


def is_root(many, sort, member):
    """Whether the member is a root."""
    need_plain_member(many, sort, member)
    return _step_back(many, sort, member) is None


def root_of(many, sort, member):
    """Return the root of the member."""
    need_plain_member(many, sort, member)
    return _walk_back(many, sort, member)[1]


def way_back(many, sort, member):
    """Return the tuple of the LOWs whose transfers from LOW + 1 to LOW lead to the root."""
    need_plain_member(many, sort, member)
    return _walk_back(many, sort, member)[0]


def _kin_of(many, sort, root):
    """Return the ascending tuple of all members with a root.

    Transfers lead a root and its line along together, so of one root's kin no two members have
    the same line. The line stands for the member as a key, which may be nested too deep for one.
    """
    found = {line_in(many, sort, root): root}
    waiting = [root]
    while len(waiting) > 0:
        member = waiting.pop()
        for low in range(many - 1):
            led = moved(many, sort, member, low, low + 1)
            if led is None:
                continue
            line = line_in(many, sort, led)
            if line not in found:
                found[line] = led
                waiting.append(led)
    return tuple(sorted(list(found.values())))


def kin(many, sort, member):
    """Return the ascending tuple of the kin of the member."""
    need_plain_member(many, sort, member)
    need_few(many, sort)
    return _kin_of(many, sort, _walk_back(many, sort, member)[1])


def roots(many, sort):
    """Return the ascending tuple of all roots of the sort."""
    need_plain(many, sort)
    need_few(many, sort)
    return tuple([member for member in listed(many, sort) if _step_back(many, sort, member) is None])


def root_counts(many, sort):
    """Return a dict: for each content of a root, ascending, how many roots have it."""
    contents = [content_in(many, sort, root) for root in roots(many, sort)]
    counts = {}
    for content in sorted(contents):
        counts[content] = counts.get(content, 0) + 1
    return counts


def carried_over(many, sort, member, other, root):
    """Return the member of the sort other that corresponds to the member, root being a root of other."""
    need_plain_member(many, sort, member)
    need_plain_member(many, other, root)
    if _step_back(many, other, root) is not None:
        raise BadMember(root)
    lows, own_root = _walk_back(many, sort, member)
    content = content_in(many, sort, own_root)
    if content_in(many, other, root) != content:
        raise Unlike(content)
    led = root
    for low in lows[::-1]:
        led = moved(many, other, led, low, low + 1)
    return led
