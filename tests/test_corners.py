"""Corners, roots and rectangles of tables: promises [66] to [68]."""

from itertools import product

from unithouse.corners import columns_root, corner, is_corner, joined_roots, names_root, rectangle, rectangle_place
from unithouse.errors import BadName, BadTable, NoFree, TooGreat, Unlike
from unithouse.tables import table_content, transfer_columns, transfer_names

from tests import reference_tables as by_hand
from tests.raising import RaisingTest
from tests.samples import ODD_VALUES

SAMPLES = by_hand.all_samples()


def corner_form(table, sign):
    """Whether a table has the form that point 67 tells of corners."""
    if sign:
        rows = [sum(row) for row in table]
        return (all(row == (1,) * sum(row) + (0,) * (len(row) - sum(row)) for row in table)
                and rows == sorted(rows, reverse=True))
    items = [table[at][at] for at in range(min(len(table), len(table[0])))]
    return sum(items) == sum(map(sum, table)) and items == sorted(items, reverse=True)


class RootsTest(RaisingTest):
    def test_roots_and_corners(self):
        for table, sign in SAMPLES:
            along = by_hand.root(by_hand.along, table, sign, False)
            self.assertEqual(names_root(table, sign=sign), along)
            self.assertEqual(by_hand.root(by_hand.along, table, sign, True), along)
            across = by_hand.root(by_hand.across, table, sign, False)
            self.assertEqual(columns_root(table, sign=sign), across)
            self.assertEqual(by_hand.root(by_hand.across, table, sign, True), across)
            both = by_hand.root(by_hand.across, along, sign, False)
            self.assertEqual(by_hand.root(by_hand.along, both, sign, False), both)
            self.assertEqual(by_hand.root(by_hand.along, across, sign, True), both)
            self.assertEqual(corner(table, sign=sign), both)
            self.assertIs(is_corner(table, sign=sign), table == both)
            self.assertIs(is_corner(both, sign=sign), True)

    def test_the_form_of_corners(self):
        seen = 0
        for table, sign in SAMPLES:
            self.assertIs(is_corner(table, sign=sign), corner_form(table, sign), table)
            seen += corner_form(table, sign)
        self.assertGreater(seen, 30)
        self.assertIs(is_corner(((1, 1, 1), (1, 0, 0), (0, 0, 0)), sign=True), True)
        self.assertIs(is_corner(((3, 0, 0), (0, 2, 0)), sign=False), True)
        self.assertIs(is_corner(((2, 0, 0), (0, 3, 0)), sign=False), False)
        self.assertIs(is_corner(((1, 1), (1, 0)), sign=False), False)

    def test_roots_behind_transfers_of_columns(self):
        for table, sign in SAMPLES:
            for column in range(len(table[0]) - 1):
                for giver, taker in ((column, column + 1), (column + 1, column)):
                    try:
                        led = transfer_columns(table, giver, taker, sign=sign)
                    except NoFree:
                        continue
                    self.assertEqual(names_root(led, sign=sign),
                                     transfer_columns(names_root(table, sign=sign), giver, taker, sign=sign))
                    for low in range(len(table) - 1):
                        one, place = by_hand.string(by_hand.along, table, low, low + 1, sign)
                        two, other_place = by_hand.string(by_hand.along, led, low, low + 1, sign)
                        self.assertEqual((len(one), place), (len(two), other_place))


class JoinedTest(RaisingTest):
    def test_tables_and_their_roots(self):
        for table, sign in SAMPLES:
            sides = (names_root(table, sign=sign), columns_root(table, sign=sign))
            self.assertEqual(joined_roots(*sides, sign=sign), table)

    def test_pairs_of_roots(self):
        # Tables go one to one with the pairs of roots that have the same corner.
        for names, columns, sign, most in ((2, 2, True, 4), (3, 2, True, 6), (2, 3, True, 6), (3, 3, True, 3),
                                           (2, 2, False, 5), (2, 3, False, 3)):
            tables = [table for table in by_hand.some_tables(names, columns, sign, most)
                      if sum(map(sum, table)) <= most]
            names_roots = [table for table in tables if names_root(table, sign=sign) == table]
            columns_roots = [table for table in tables if columns_root(table, sign=sign) == table]
            found = []
            for one, other in product(names_roots, columns_roots):
                own = corner(one, sign=sign)
                if own == corner(other, sign=sign):
                    table = joined_roots(one, other, sign=sign)
                    self.assertEqual(names_root(table, sign=sign), one)
                    self.assertEqual(columns_root(table, sign=sign), other)
                    found.append(table)
                else:
                    self.assert_error(Unlike(table_content(own, sign=sign)), joined_roots, one, other, sign=sign)
            self.assertEqual(len(found), len(set(found)))
            self.assertEqual(sorted(found), sorted(tables))

    def test_errors_in_their_order(self):
        good, wrong = ((1, 1), (0, 0)), ((0, 0), (1, 1))
        self.assertEqual(joined_roots(good, good, sign=True), good)
        self.assert_error(BadTable(None), joined_roots, 5, 5, sign=True)
        self.assert_error(BadTable(0), joined_roots, ((2, 0), (0, 0)), 5, sign=True)
        self.assert_error(TooGreat(12), joined_roots, ((13, 0), (0, 0)), 5, sign=False)
        self.assert_error(BadTable(1), joined_roots, wrong, ((0, 0), (0,)), sign=True)
        self.assert_error(TooGreat(12), joined_roots, wrong, ((13, 0), (0, 0)), sign=False)
        self.assert_error(BadTable("names"), joined_roots, wrong, ((0, 1), (0, 1)), sign=True)
        self.assert_error(BadTable("columns"), joined_roots, good, ((0, 1), (0, 1)), sign=True)
        self.assert_error(Unlike((2, 0)), joined_roots, good, ((1, 0), (1, 0)), sign=True)
        self.assert_error(Unlike((1, 1)), joined_roots, ((1, 0), (1, 0)), good, sign=True)
        # Tables of another shape have another corner.
        self.assert_error(Unlike((2, 0)), joined_roots, good, ((1, 1), (0, 0), (0, 0)), sign=True)
        self.assert_error(Unlike((2, 0)), joined_roots, good, ((1, 1, 0), (0, 0, 0)), sign=True)


class RectangleTest(RaisingTest):
    def test_rectangles(self):
        for table, sign in SAMPLES:
            for low, column in product(range(len(table) - 1), range(len(table[0]) - 1)):
                rows = []
                string, place = by_hand.string(by_hand.along, table, low, low + 1, sign)
                for one in string:
                    rows.append(tuple(by_hand.string(by_hand.across, one, column, column + 1, sign)[0]))
                self.assertEqual(rectangle(table, low, column, sign=sign), tuple(rows))
                self.assertEqual(len({len(row) for row in rows}), 1)
                other_place = by_hand.string(by_hand.across, table, column, column + 1, sign)[1]
                self.assertEqual(rectangle_place(table, low, column, sign=sign), (place, other_place))
                self.assertEqual(rows[place][other_place], table)

    def test_all_tables_of_a_rectangle_tell_the_same(self):
        for table, sign in SAMPLES[::17]:
            rows = rectangle(table, 0, 0, sign=sign)
            for place, row in enumerate(rows):
                for other_place, one in enumerate(row):
                    self.assertEqual(rectangle(one, 0, 0, sign=sign), rows)
                    self.assertEqual(rectangle_place(one, 0, 0, sign=sign), (place, other_place))
                    if place + 1 < len(rows):
                        self.assertEqual(transfer_names(one, 0, 1, sign=sign), rows[place + 1][other_place])
                    if other_place + 1 < len(row):
                        self.assertEqual(transfer_columns(one, 0, 1, sign=sign), row[other_place + 1])

    def test_by_hand(self):
        table = ((2, 0), (0, 1))
        rows = ((((2, 0), (0, 1)), ((1, 1), (0, 1))), (((1, 0), (1, 1)), ((1, 0), (0, 2))))
        self.assertEqual(rectangle(table, 0, 0, sign=False), rows)
        self.assertEqual(rectangle_place(rows[1][0], 0, 0, sign=False), (1, 0))

    def test_errors_in_their_order(self):
        table = ((1, 0, 1), (0, 1, 1))
        for call in (rectangle, rectangle_place):
            self.assert_error(BadTable(None), call, 5, 5, 5, sign=True)
            self.assert_error(BadTable(1), call, ((0, 0), (2, 0)), 5, 5, sign=True)
            self.assert_error(TooGreat(12), call, ((13, 0), (2, 0)), 5, 5, sign=False)
            for value in (1, 2, -1, *ODD_VALUES):
                self.assert_error(BadName(value), call, table, value, None, sign=True)
            for value in (2, 3, -1, *ODD_VALUES):
                self.assert_error(BadName(value), call, table, 0, value, sign=False)
            self.assertTrue(call(table, 0, 1, sign=True))

    def test_what_is_no_table(self):
        for call in (is_corner, names_root, columns_root, corner):
            self.assert_error(BadTable(None), call, None, sign=True)
            self.assert_error(BadTable(1), call, ((0, 0), (0, 2)), sign=True)
            self.assert_error(TooGreat(12), call, ((0, 0), (0, 13)), sign=False)
