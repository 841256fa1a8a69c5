"""Ways of deeds from a row to evener ones, and what becomes of members along them.

`need_deeds`, `rows_along`, `way_between` and `holds_way` are for the other modules; they trust
their number of names and their rows, and `way_between` that its goal is evener than its start.
"""

from unithouse.counts import content_counts
from unithouse.errors import BadMember, BadStep, BadTotal, BadWay, Unlike
from unithouse.listing import listed, need_few
from unithouse.members import content_in, holds_member, need_content, need_member
from unithouse.readings import moved
from unithouse.rows import evener, with_mark_moved, with_names_exchanged
from unithouse.sorts import is_name, need_sort
from unithouse.strings import exchanged_pair

MOST_DEEDS = 60


def is_deed(many, value):
    """Whether a value is a deed."""
    if not isinstance(value, tuple) or len(value) != 3:
        return False
    word, one, other = value
    if not isinstance(word, str) or word not in ("transfer", "exchange"):
        return False
    return is_name(many, one) and is_name(many, other) and one != other


def need_deeds(many, way):
    """Raise BadWay of what is no tuple of at most 60 deeds."""
    if not isinstance(way, tuple):
        raise BadWay(0)
    if len(way) > MOST_DEEDS:
        raise BadWay(MOST_DEEDS)
    for place, deed in enumerate(way):
        if not is_deed(many, deed):
            raise BadWay(place)


def rows_along(many, start, way):
    """Return the tuple of all rows of a way; raise what is told of a function that takes one."""
    need_deeds(many, way)
    rows = [start]
    for place, deed in enumerate(way):
        word, one, other = deed
        row = rows[-1]
        if word == "exchange":
            rows.append(with_names_exchanged(row, one, other))
        elif row[one] > row[other]:
            rows.append(with_mark_moved(row, one, other))
        else:
            raise BadStep(place)
    return tuple(rows)


def holds_way(many, start, goal, way):
    """Whether a value of any kind is a way from the start whose last row is the goal."""
    try:
        rows = rows_along(many, start, way)
    except (BadWay, BadStep):
        return False
    return rows[-1] == goal


def _falling(row):
    """Return the numbers of a row, the greatest ones first."""
    return sorted(row, reverse=True)


def _transfers_down(start, goal):
    """Return the list of tuples (giver, taker) of places that lead one falling row to another, evener one.

    The taker is the first place with too little, the giver the last one ahead of it with too much;
    between both all is right. So the row goes on falling and the goal goes on being evener, and each
    transfer brings both places nearer to the goal.
    """
    row = list(start)
    found = []
    while row != goal:
        taker = min([at for at in range(len(row)) if row[at] < goal[at]])
        giver = max([at for at in range(taker) if row[at] > goal[at]])
        row[giver] -= 1
        row[taker] += 1
        found.append((giver, taker))
    return found


def way_between(many, start, goal):
    """Return a way from a row to an evener one, with the fewest transfers."""
    falling = [name for _, name in sorted([(-number, name) for name, number in enumerate(start)])]
    way = []
    row = start
    for giver, taker in _transfers_down(_falling(start), _falling(goal)):
        way.append(("transfer", falling[giver], falling[taker]))
        row = with_mark_moved(row, falling[giver], falling[taker])
    for name in range(many):
        if row[name] != goal[name]:
            other = row.index(goal[name], name + 1)
            way.append(("exchange", name, other))
            row = with_names_exchanged(row, name, other)
    return tuple(way)


def rows_on(many, start, way):
    """Return the tuple of all rows of the way."""
    need_content(many, start)
    return rows_along(many, start, way)


def _need_two_contents(many, start, goal):
    """Raise what two contents are refused with."""
    need_content(many, start)
    need_content(many, goal)


def units(many, start, goal):
    """Return half the sum of the differences of the two rows, both with the greatest numbers first."""
    _need_two_contents(many, start, goal)
    if sum(start) != sum(goal):
        raise BadTotal(sum(goal))
    return sum([abs(one - other) for one, other in zip(_falling(start), _falling(goal))]) // 2


def way_to(many, start, goal):
    """Return a way from the start to the goal, None if this is not evener."""
    _need_two_contents(many, start, goal)
    if not evener(goal, start):
        return None
    return way_between(many, start, goal)


def is_way(many, start, goal, way):
    """Whether a value of any kind is a way from the start whose last row is the goal."""
    _need_two_contents(many, start, goal)
    return holds_way(many, start, goal, way)


def _led_by(many, sort, member, way):
    """Return the member to which all deeds of a way lead one."""
    here = member
    for word, one, other in way:
        if word == "transfer":
            here = moved(many, sort, here, one, other)
        else:
            here = exchanged_pair(many, sort, here, min(one, other), max(one, other))
    return here


def _undone(many, sort, member, deed):
    """Return the member that a deed leads to a member, None if there is none; no member is None."""
    word, one, other = deed
    if word == "transfer":
        return moved(many, sort, member, other, one)
    return exchanged_pair(many, sort, member, min(one, other), max(one, other))


def _walked_back(many, sort, member, way):
    """Return the pair of the number of the row that is reached if the deeds are undone, and of the member there."""
    place = len(way)
    first = member
    while place > 0:
        before = _undone(many, sort, first, way[place - 1])
        if before is None:
            break
        first = before
        place -= 1
    return (place, first)


def led(many, sort, member, way):
    """Return the member to which the deeds lead."""
    need_member(many, sort, member)
    rows_along(many, content_in(many, sort, member), way)
    return _led_by(many, sort, member, way)


def _need_rows(many, sort, start, way):
    """Return the rows of a way, behind what the sort, the start and the way are refused with."""
    need_sort(many, sort)
    need_content(many, start)
    return rows_along(many, start, way)


def _need_member_at(many, sort, member, row):
    """Raise what is no member, or is one with another content, is refused with."""
    if not holds_member(many, sort, member):
        raise BadMember(member)
    content = content_in(many, sort, member)
    if content != row:
        raise Unlike(content)


def origin(many, sort, start, way, member):
    """Return the pair of the number of the row to which the deeds are undone, and of the member there."""
    rows = _need_rows(many, sort, start, way)
    _need_member_at(many, sort, member, rows[-1])
    return _walked_back(many, sort, member, way)


def fresh(many, sort, start, way):
    """Return the ascending list of tuples (place, first) of the members to which the deed ahead leads none."""
    rows = _need_rows(many, sort, start, way)
    need_few(many, sort)
    contents = [(content_in(many, sort, member), member) for member in listed(many, sort)]
    return [(place, member) for place in range(1, len(rows)) for content, member in contents
            if content == rows[place] and _undone(many, sort, member, way[place - 1]) is None]


def arisen(many, sort, start, way):
    """Return a tuple with, for each deed, how many members of fresh there are behind it."""
    rows = _need_rows(many, sort, start, way)
    counted = content_counts(many, sort)
    numbers = [counted.get(row, 0) for row in rows]
    # An exchange leads to as many, and a transfer that is let leads no two to the same member.
    return tuple([behind - ahead for ahead, behind in zip(numbers, numbers[1:])])


def way_over(many, sort, start, way, other, member):
    """Return the member to which a member with the last row is led from the one way to the other."""
    rows = _need_rows(many, sort, start, way)
    last = rows_along(many, start, other)[-1]
    if last != rows[-1]:
        raise Unlike(last)
    _need_member_at(many, sort, member, last)
    need_few(many, sort)
    place, first = _walked_back(many, sort, member, way)
    if place == 0:
        return _led_by(many, sort, first, other)
    over = member
    place, first = _walked_back(many, sort, over, other)
    while place == 0:
        over = _led_by(many, sort, first, way)
        place, first = _walked_back(many, sort, over, other)
    return over
