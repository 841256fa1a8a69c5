"""Tables: what is one, the members for which they stand, and what becomes of them along and across."""

from unithouse.counts import content_counts
from unithouse.errors import BadContent, BadMember, BadSort, BadTable, NoFree, TooGreat
from unithouse.grids import (across, back_from_across, columns_of, member_of_table, sort_of_sizes, sort_of_table,
                             sums_of, table_exchanged, table_moved, table_of_member)
from unithouse.listing import MOST_LISTED
from unithouse.members import holds_member
from unithouse.readings import brackets
from unithouse.sorts import LEAST_MANY, MOST_MANY, MOST_MARKS, is_below, is_whole, need_pair, need_sort


def _is_row(value):
    """Whether a value is a tuple of so many things as a table has rows or columns."""
    return isinstance(value, tuple) and LEAST_MANY <= len(value) <= MOST_MANY


def _is_item(value, sign):
    """Whether a value is an item of a table."""
    if sign:
        return is_below(value, 2)
    return is_whole(value) and value >= 0


def need_table(table, *, sign):
    """Return the table if it is one."""
    if not _is_row(table):
        raise BadTable(None)
    for place, row in enumerate(table):
        if not _is_row(row) or len(row) != len(table[0]) or not all([_is_item(item, sign) for item in row]):
            raise BadTable(place)
    if sum(sums_of(table)) > MOST_MARKS:
        raise TooGreat(MOST_MARKS)
    return table


def is_table(value, *, sign):
    """Whether a value of any kind is a table."""
    try:
        need_table(value, sign=sign)
    except (BadTable, TooGreat):
        return False
    return True


def table_content(table, *, sign):
    """Return the content of the table, the sums of its rows."""
    return sums_of(need_table(table, sign=sign))


def table_sizes(table, *, sign):
    """Return the sizes of the table, the sums of its columns."""
    return sums_of(columns_of(need_table(table, sign=sign)))


def table_sort(table, *, sign):
    """Return the sort of the columns of the table."""
    return sort_of_table(need_table(table, sign=sign), sign)


def table_member(table, *, sign):
    """Return the member for which the table stands."""
    return member_of_table(need_table(table, sign=sign))


def _columns_in(sort):
    """Return the list of the sorts that a sort pairs, one behind the other."""
    found = []
    rest = sort
    while rest[0] == "pair":
        found.append(rest[1])
        rest = rest[2]
    return found + [rest]


def member_table(many, sort, member):
    """Return the pair of the table that stands for the member, and of whether it is a sign table."""
    need_sort(many, sort)
    columns = _columns_in(sort)
    word = columns[0][0]
    if not LEAST_MANY <= len(columns) <= MOST_MANY or word not in ("subset", "bag"):
        raise BadSort(())
    if any([column[0] != word for column in columns]):
        raise BadSort(())
    if not holds_member(many, sort, member):
        raise BadMember(member)
    return (table_of_member(many, [size for _, size in columns], member), word == "subset")


def _rows_below(total, bounds, sign):
    """Return the ascending list of the rows with a sum, no item greater than its bound, or than 1 if sign."""
    if len(bounds) == 0:
        return [()] if total == 0 else []
    most = min(total, bounds[0])
    if sign:
        most = min(most, 1)
    return [(item,) + rest for item in range(most + 1) for rest in _rows_below(total - item, bounds[1:], sign)]


def _tables_of(content, sizes, sign):
    """Return the ascending list of all tables with a content and sizes of the same sum."""
    begun = [((), sizes)]
    for number in content:
        begun = [(rows + (row,), tuple([size - item for size, item in zip(left, row)]))
                 for rows, left in begun for row in _rows_below(number, left, sign)]
    return [rows for rows, _ in begun]


def _need_sums(value):
    """Raise BadContent of what is neither the content nor the sizes of a table."""
    if not _is_row(value) or not all([is_below(number, MOST_MARKS + 1) for number in value]):
        raise BadContent(value)


def all_tables(content, sizes, *, sign):
    """Return the ascending tuple of all tables with this content and these sizes."""
    _need_sums(content)
    _need_sums(sizes)
    if max(sum(content), sum(sizes)) > MOST_MARKS:
        raise TooGreat(MOST_MARKS)
    # These are as many as the members of the sort of the columns that have the content.
    count = content_counts(len(content), sort_of_sizes(sizes, sign)).get(content, 0)
    if count > MOST_LISTED:
        raise TooGreat(MOST_LISTED)
    if count == 0:
        return ()
    return tuple(_tables_of(content, sizes, sign))


def _need_names(table, one, other, sign):
    """Return two names of a table, the lesser one first."""
    need_table(table, sign=sign)
    return need_pair(len(table), one, other)


def _need_columns(table, one, other, sign):
    """Return two columns of a table, the lesser one first."""
    need_table(table, sign=sign)
    return need_pair(len(table[0]), one, other)


def _brackets_of(table, low, high, sign):
    """Return the reading of a table for LOW and HIGH."""
    return brackets(len(table), sort_of_table(table, sign), member_of_table(table), low, high)


def name_reading(table, name, other, *, sign):
    """Return the reading of the table for the two names."""
    low, high = _need_names(table, name, other, sign)
    return _brackets_of(table, low, high, sign)


def column_reading(table, column, other, *, sign):
    """Return the reading of the table for the two columns."""
    low, high = _need_columns(table, column, other, sign)
    return _brackets_of(across(table, sign), low, high, sign)


def transfer_names(table, giver, taker, *, sign):
    """Return the table to which the transfer between the two names leads."""
    _need_names(table, giver, taker, sign)
    led = table_moved(table, giver, taker, sign)
    if led is None:
        raise NoFree(giver, taker)
    return led


def transfer_columns(table, giver, taker, *, sign):
    """Return the table to which the transfer between the two columns leads."""
    _need_columns(table, giver, taker, sign)
    led = table_moved(across(table, sign), giver, taker, sign)
    if led is None:
        raise NoFree(giver, taker)
    return back_from_across(led, sign)


def exchange_names(table, name, other, *, sign):
    """Return the table with the two names exchanged."""
    low, high = _need_names(table, name, other, sign)
    return table_exchanged(table, low, high, sign)


def exchange_columns(table, column, other, *, sign):
    """Return the table with the two columns exchanged."""
    low, high = _need_columns(table, column, other, sign)
    return back_from_across(table_exchanged(across(table, sign), low, high, sign), sign)
