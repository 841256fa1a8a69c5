"""Tables and the members for which they stand, along and across.

A table is told by its rows and by `sign`, whether it is a sign table. LOW and HIGH are the lesser
and the greater one of two names. These functions trust what they are passed: they are for the
modules of the package.
"""

from unithouse.chains import chain_of
from unithouse.readings import moved
from unithouse.strings import exchanged_pair


def columns_of(table):
    """Return the tuple of the columns of a table."""
    return tuple([tuple([row[at] for row in table]) for at in range(len(table[0]))])


def quarter_of(table):
    """Return the quarter turn of a table."""
    return columns_of(table[::-1])


def back_from_quarter(table):
    """Return the table of which a table is the quarter turn."""
    return columns_of(table)[::-1]


def across(table, sign):
    """Return the table whose names stand for the columns of a table."""
    if sign:
        return quarter_of(table)
    return columns_of(table)


def back_from_across(table, sign):
    """Return the table whose columns the names of a table stand for."""
    if sign:
        return back_from_quarter(table)
    return columns_of(table)


def sums_of(rows):
    """Return the tuple of the sums of some rows."""
    return tuple([sum(row) for row in rows])


def sort_of_sizes(sizes, sign):
    """Return the sort of columns of some sizes."""
    word = "subset" if sign else "bag"
    return chain_of([(word, size) for size in sizes], "pair")


def sort_of_table(table, sign):
    """Return the sort of the columns of a table."""
    return sort_of_sizes(sums_of(columns_of(table)), sign)


def _names_of(column):
    """Return the tuple of the names of a column, ascending, each as often as its item says."""
    return tuple([name for name, number in enumerate(column) for _ in range(number)])


def member_of_table(table):
    """Return the member for which a table stands."""
    columns = [_names_of(column) for column in columns_of(table)]
    member = columns[-1]
    for names in columns[-2::-1]:
        member = (names, member)
    return member


def table_of_member(many, sizes, member):
    """Return the table that stands for a member, sizes being those of its columns."""
    columns = []
    rest = member
    for _ in sizes[1:]:
        names, rest = rest
        columns.append(names)
    columns.append(rest)
    return tuple([tuple([names.count(name) for names in columns]) for name in range(many)])


def table_moved(table, giver, taker, sign):
    """Return the table to which a transfer of two names leads, None if there is none."""
    many = len(table)
    sizes = sums_of(columns_of(table))
    led = moved(many, sort_of_sizes(sizes, sign), member_of_table(table), giver, taker)
    if led is None:
        return None
    return table_of_member(many, sizes, led)


def table_exchanged(table, low, high, sign):
    """Return the table with LOW and HIGH exchanged."""
    many = len(table)
    sizes = sums_of(columns_of(table))
    led = exchanged_pair(many, sort_of_sizes(sizes, sign), member_of_table(table), low, high)
    return table_of_member(many, sizes, led)
