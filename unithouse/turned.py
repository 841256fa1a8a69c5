"""Tables turned by a quarter, and sorts and members turned about."""

from unithouse.errors import BadMember, BadSort
from unithouse.grids import back_from_quarter, columns_of, quarter_of
from unithouse.members import holds_member, things_in
from unithouse.sorts import need_sort, parts_in
from unithouse.tables import need_table


def quarter_turn(table):
    """Return the quarter turn of the sign table."""
    return quarter_of(need_table(table, sign=True))


def quarter_back(table):
    """Return the sign table of which the table is the quarter turn."""
    return back_from_quarter(need_table(table, sign=True))


def transposed(table):
    """Return the number table with names and columns exchanged."""
    return columns_of(need_table(table, sign=False))


def _sort_turned(many, sort):
    """Return what a sort turned about is, whatever bounds it passes."""
    word = sort[0]
    if word == "none":
        return sort
    if word == "one":
        return ("subset", many - 1)
    if word == "subset":
        return ("subset", many - sort[1]) if sort[1] <= many else ("none",)
    if word == "bag":
        return ("heap", sort[1], ("subset", many - 1))
    if word in ("either", "pair"):
        return (word, _sort_turned(many, sort[2]), _sort_turned(many, sort[1]))
    return (word, sort[1], _sort_turned(many, sort[2]))


def turned_sort(many, sort):
    """Return the sort turned about."""
    need_sort(many, sort)
    for path, part in parts_in(sort):
        if part[0] in ("rounds", "trees", "rooted"):
            raise BadSort(path)
    return need_sort(many, _sort_turned(many, sort))


def _need_member_to_turn(many, sort, member):
    """Raise what a sort that is not turned about, then what is no member of it, is refused with."""
    turned_sort(many, sort)
    if not holds_member(many, sort, member):
        raise BadMember(member)


def _others(many, names):
    """Return the tuple of all names but some, ascending."""
    return tuple([name for name in range(many) if name not in names])


def _member_turned(many, sort, member):
    """Return what a member turned about is."""
    word = sort[0]
    if word == "one":
        return _others(many, (member,))
    if word == "subset":
        return _others(many, member)
    turned = [_member_turned(many, part, thing) for part, thing in things_in(sort, member)]
    if word == "either":
        return (1 - member[0], turned[0])
    if word in ("pair", "list"):
        return tuple(turned[::-1])
    return tuple(sorted(turned))


def turned_member(many, sort, member):
    """Return the member turned about."""
    _need_member_to_turn(many, sort, member)
    return _member_turned(many, sort, member)


def _layers_in(sort, member):
    """Return the layers of a member."""
    if sort[0] in ("one", "subset"):
        return 1
    return sum([_layers_in(part, thing) for part, thing in things_in(sort, member)])


def layers(many, sort, member):
    """Return the layers of the member."""
    _need_member_to_turn(many, sort, member)
    return _layers_in(sort, member)
