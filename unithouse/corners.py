"""Corners of tables, their roots along and across, and the rectangles of neighbours.

A transfer of neighbouring names leaves columns' roots, one of neighbouring columns names' roots.
"""

from unithouse.errors import BadName, BadTable, Unlike
from unithouse.grids import (across, back_from_across, columns_of, member_of_table, sort_of_table, sums_of,
                             table_of_member)
from unithouse.orders import carried_over, root_of
from unithouse.sorts import is_below
from unithouse.strings import members_from_head, place_in
from unithouse.tables import need_table


def _names_root(table, sign):
    """Return the names' root of a table."""
    many = len(table)
    root = root_of(many, sort_of_table(table, sign), member_of_table(table))
    return table_of_member(many, sums_of(columns_of(table)), root)


def _columns_root(table, sign):
    """Return the columns' root of a table."""
    return back_from_across(_names_root(across(table, sign), sign), sign)


def _corner(table, sign):
    """Return the corner of a table."""
    return _columns_root(_names_root(table, sign), sign)


def is_corner(table, *, sign):
    """Whether the table has no transfer from LOW + 1 to LOW, along or across."""
    need_table(table, sign=sign)
    return _names_root(table, sign) == table and _columns_root(table, sign) == table


def names_root(table, *, sign):
    """Return the names' root of the table."""
    return _names_root(need_table(table, sign=sign), sign)


def columns_root(table, *, sign):
    """Return the columns' root of the table."""
    return _columns_root(need_table(table, sign=sign), sign)


def corner(table, *, sign):
    """Return the corner of the table."""
    return _corner(need_table(table, sign=sign), sign)


def joined_roots(names_side, columns_side, *, sign):
    """Return the one table with this names' root and this columns' root."""
    need_table(names_side, sign=sign)
    need_table(columns_side, sign=sign)
    if _names_root(names_side, sign) != names_side:
        raise BadTable("names")
    if _columns_root(columns_side, sign) != columns_side:
        raise BadTable("columns")
    own = _corner(names_side, sign)
    if own != _corner(columns_side, sign):
        raise Unlike(sums_of(own))
    # The transfers of names that lead from the corner to the columns' root lead from the names' root to the table.
    many = len(names_side)
    led = carried_over(many, sort_of_table(columns_side, sign), member_of_table(columns_side),
                       sort_of_table(names_side, sign), member_of_table(names_side))
    return table_of_member(many, sums_of(columns_of(names_side)), led)


def _string_of_tables(table, low, sign):
    """Return the list of the tables of the string of the names low and low + 1, from the head on."""
    many = len(table)
    found = members_from_head(many, sort_of_table(table, sign), member_of_table(table), low, low + 1)
    return [table_of_member(many, sums_of(columns_of(table)), member) for member in found]


def _tables_across(table, column, sign):
    """Return the tuple of the tables of the string of the columns column and column + 1, from the head on."""
    turned = _string_of_tables(across(table, sign), column, sign)
    return tuple([back_from_across(one, sign) for one in turned])


def _need_neighbours(table, low, column, sign):
    """Raise what a table, and what has no neighbour behind it there, is refused with."""
    need_table(table, sign=sign)
    if not is_below(low, len(table) - 1):
        raise BadName(low)
    if not is_below(column, len(table[0]) - 1):
        raise BadName(column)


def rectangle(table, low, column, *, sign):
    """Return the tuple of the rows of the tables to which transfers of two names and of two columns lead."""
    _need_neighbours(table, low, column, sign)
    return tuple([_tables_across(one, column, sign) for one in _string_of_tables(table, low, sign)])


def _place_of(table, low, sign):
    """Return the place of a table in its string of the names low and low + 1."""
    return place_in(len(table), sort_of_table(table, sign), member_of_table(table), low, low + 1)[0]


def rectangle_place(table, low, column, *, sign):
    """Return the pair of the places of the table in its rectangle."""
    _need_neighbours(table, low, column, sign)
    return (_place_of(table, low, sign), _place_of(across(table, sign), column, sign))
