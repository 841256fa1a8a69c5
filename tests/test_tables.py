"""Tables: promises [64] to [66]."""

from itertools import permutations, product

from unithouse.errors import BadContent, BadMany, BadMember, BadName, BadSort, BadTable, NoFree, SameName, TooGreat
from unithouse.listing import members
from unithouse.members import content_of
from unithouse.tables import (all_tables, column_reading, exchange_columns, exchange_names, is_table, member_table,
                              name_reading, need_table, table_content, table_member, table_sizes, table_sort,
                              transfer_columns, transfer_names)

from tests import reference_tables as by_hand
from tests.raising import RaisingTest
from tests.samples import NONE, ODD_VALUES, ONE, deep

SAMPLES = by_hand.all_samples()
TWO = ((2, 0), (0, 1))


class NeedTest(RaisingTest):
    def test_tables(self):
        for table, sign in SAMPLES:
            self.assertIs(need_table(table, sign=sign), table)
            self.assertIs(is_table(table, sign=sign), True)
            self.assertIs(need_table(table, sign=False), table)
        self.assertIs(is_table(((12, 0), (0, 0)), sign=False), True)
        self.assertIs(is_table(((0,) * 5,) * 5, sign=True), True)

    def refused(self, error, value, sign):
        self.assert_error(error, need_table, value, sign=sign)
        self.assertIs(is_table(value, sign=sign), False)
        for call in (table_content, table_sizes, table_sort, table_member):
            self.assert_error(error, call, value, sign=sign)
        for call in (name_reading, column_reading, transfer_names, transfer_columns, exchange_names, exchange_columns):
            self.assert_error(error, call, value, None, None, sign=sign)

    def test_no_tuple_of_rows(self):
        for value in (*ODD_VALUES, (), ((0, 0),), ((0, 0),) * 6, [(0, 0), (0, 0)]):
            if isinstance(value, tuple) and 2 <= len(value) <= 5:
                continue
            for sign in (True, False):
                self.refused(BadTable(None), value, sign)

    def test_wrong_rows(self):
        good = (1, 0, 1)
        for row in (*ODD_VALUES, (), (1,), (1, 0), (1, 0, 1, 0), (1,) * 6, [1, 0, 1], (1, 0, -1), (1, 0, True),
                    (1, None, 0), (1, 0, 1.0), (0, "1", 0), (0, (1,), 0)):
            for sign in (True, False):
                for place in range(1, 4):
                    table = (good,) * place + (row,) + (good,) * (3 - place)
                    self.refused(BadTable(place), table, sign)
                    self.refused(BadTable(place), (good,) * place + (row,) + (5,) * (4 - place), sign)
        for row in (*ODD_VALUES, (), (1,), (1,) * 6, [1, 0], (1, -1), (1, True), (None, 0)):
            for sign in (True, False):
                self.refused(BadTable(0), (row, (1, 0)), sign)
        for place in range(3):
            table = (good,) * place + ((0, 2, 0),) + (good,) * (2 - place)
            self.refused(BadTable(place), table, True)
            self.assertIs(is_table(table, sign=False), True)

    def test_more_than_twelve(self):
        self.refused(TooGreat(12), ((13, 0), (0, 0)), False)
        self.refused(TooGreat(12), ((6, 6), (0, 1)), False)
        self.refused(TooGreat(12), ((10 ** 40, 0), (0, 0)), False)
        self.refused(TooGreat(12), ((1, 1, 1, 1), (1, 1, 1, 1), (1, 1, 1, 1), (1, 0, 0, 0)), True)
        # What is wrong with a row comes first.
        self.refused(BadTable(1), ((13, 0), (0, -1)), False)
        self.assertIs(is_table(((1, 1, 1, 1),) * 3, sign=True), True)


class MembersTest(RaisingTest):
    def test_content_and_sizes(self):
        for table, sign in SAMPLES:
            self.assertEqual(table_content(table, sign=sign), tuple(sum(row) for row in table))
            self.assertEqual(table_sizes(table, sign=sign), tuple(sum(column) for column in zip(*table)))

    def test_members(self):
        self.assertEqual(table_sort(TWO, sign=False), ("pair", ("bag", 2), ("bag", 1)))
        self.assertEqual(table_member(TWO, sign=False), ((0, 0), (1,)))
        table = ((1, 0, 1), (1, 0, 0))
        self.assertEqual(table_sort(table, sign=True), ("pair", ("subset", 2), ("pair", ("subset", 0), ("subset", 1))))
        self.assertEqual(table_member(table, sign=True), ((0, 1), ((), (0,))))
        for table, sign in SAMPLES:
            sort, member = by_hand.sort_and_member(table, sign)
            self.assertEqual((table_sort(table, sign=sign), table_member(table, sign=sign)), (sort, member))
            self.assertEqual(content_of(len(table), sort, member), table_content(table, sign=sign))
            self.assertEqual(member_table(len(table), sort, member), (table, sign))
            self.assertIs(member_table(len(table), sort, member)[1], sign)

    def test_all_members(self):
        for many, sizes, word in ((2, (1, 2), "bag"), (3, (2, 1, 1), "subset"), (4, (0, 3, 1, 1), "subset"),
                                  (3, (1, 0, 2, 0, 1), "bag"), (2, (3, 1), "subset")):
            sort = (word, sizes[-1])
            for size in reversed(sizes[:-1]):
                sort = ("pair", (word, size), sort)
            for member in members(many, sort):
                table, sign = member_table(many, sort, member)
                self.assertEqual((table_sort(table, sign=sign), table_member(table, sign=sign)), (sort, member))
                self.assertIs(sign, word == "subset")

    def test_sorts_that_are_not_those_of_tables(self):
        self.assert_error(BadMany(1), member_table, 1, 5, None)
        self.assert_error(BadSort((1,)), member_table, 3, ("pair", 5, ONE), None)
        self.assert_error(TooGreat(10), member_table, 3, deep(11), None)
        one, bag = ("subset", 1), ("bag", 1)
        six = ("pair", one, ("pair", one, ("pair", one, ("pair", one, ("pair", one, one)))))
        for sort in (ONE, NONE, one, bag, ("pair", ONE, ONE), ("pair", ("list", 1, one), ("list", 1, one)),
                     ("pair", ("rounds", 1), ("rounds", 1)), ("pair", one, bag), ("pair", bag, one), ("pair", ("pair", one, one), one),
                     ("pair", one, ONE), ("pair", ONE, one), ("pair", one, ("pair", one, bag)), ("list", 2, one), six,
                     ("pair", one, ("either", one, one)), ("either", one, one), ("pair", one, ("pair", bag, one))):
            self.assert_error(BadSort(()), member_table, 3, sort, None)
        five = six[2]
        for value in (None, (), ((0,), ((0,), ((0,), ((0,), (3,))))), ((0,), (0,), (0,), (0,), (0,))):
            self.assert_error(BadMember(value), member_table, 3, five, value)
        self.assert_error(BadMember(((), ())), member_table, 3, ("pair", one, ("subset", 4)), ((), ()))
        self.assertEqual(member_table(3, five, ((0,), ((0,), ((0,), ((0,), (2,)))))),
                         (((1, 1, 1, 1, 0), (0,) * 5, (0, 0, 0, 0, 1)), True))


class AllTest(RaisingTest):
    def test_small_tables(self):
        for names, columns, sign, most in ((2, 2, False, 2), (2, 2, True, 1), (3, 2, True, 1), (2, 3, False, 1),
                                           (3, 3, True, 1), (2, 4, True, 1), (4, 2, False, 1)):
            found = {}
            for table in by_hand.some_tables(names, columns, sign, 12 if (names, columns) == (2, 2) and not sign else most):
                key = (tuple(sum(row) for row in table), tuple(sum(column) for column in zip(*table)))
                found.setdefault(key, []).append(table)
            if sign or (names, columns) == (2, 2):
                for key in product(product(range(4), repeat=names), product(range(4), repeat=columns)):
                    self.assertEqual(all_tables(*key, sign=sign), tuple(sorted(found.get(key, []))))
            else:
                for (content, sizes), tables in found.items():
                    told = all_tables(content, sizes, sign=sign)
                    self.assertTrue(set(tables) <= set(told))
                    self.assertEqual(list(told), sorted(set(told)))

    def test_greater_tables(self):
        self.assertEqual(len(all_tables((1,) * 5, (1,) * 5, sign=True)), 120)
        self.assertEqual(len(all_tables((2,) * 4, (2,) * 4, sign=True)), 90)
        self.assertEqual(len(all_tables((2,) * 4, (2,) * 4, sign=False)), 282)
        self.assertEqual(len(all_tables((3, 3, 3, 3), (3, 3, 3, 3), sign=True)), 24)
        self.assertEqual(all_tables((12, 0), (0, 12), sign=False), (((0, 12), (0, 0)),))
        self.assertEqual(all_tables((0, 0), (0, 0, 0), sign=True), (((0, 0, 0), (0, 0, 0)),))
        self.assertEqual(all_tables((3, 0, 0), (3, 0), sign=True), ())
        self.assertEqual(all_tables((3, 3, 0, 0, 0), (2, 2, 2), sign=True), (((1, 1, 1),) * 2 + ((0, 0, 0),) * 3,))
        self.assertEqual(all_tables((1, 1), (1, 2), sign=False), ())
        self.assertEqual(all_tables((5, 5), (0, 0), sign=False), ())

    def test_too_many(self):
        self.assert_error(TooGreat(2000), all_tables, (3, 3, 2, 2, 2), (3, 3, 2, 2, 2), sign=False)
        self.assert_error(TooGreat(2000), all_tables, (2, 2, 2, 2, 2), (2, 2, 2, 2, 2), sign=True)
        found = all_tables((2, 2, 2, 2, 1), (2, 2, 2, 2, 1), sign=True)
        self.assertEqual(len(set(found)), count_by_hand((2, 2, 2, 2, 1), (2, 2, 2, 2, 1), 1))

    def test_as_many_as_two_thousand(self):
        # So many have the content and the sizes, found by listing: just below and above the most.
        found = {}
        for content in product(range(5), repeat=4):
            for sizes in ((3, 3, 3, 3), (4, 3, 2, 1), (3, 3, 2, 2)):
                if sum(content) == sum(sizes) and content == tuple(sorted(content)):
                    count = count_by_hand(content, sizes)
                    found[count] = (content, sizes)
        below = max(count for count in found if count <= 2000)
        above = min(count for count in found if count > 2000)
        self.assertEqual(len(all_tables(*found[below], sign=False)), below)
        self.assert_error(TooGreat(2000), all_tables, *found[above], sign=False)

    def test_errors_in_their_order(self):
        for value in (*ODD_VALUES, (), (1,), (0,) * 6, [1, 1], (1, 13), (-1, 0), (1, True), (1, 1.0), (1, None)):
            self.assert_error(BadContent(value), all_tables, value, None, sign=False)
            self.assert_error(BadContent(value), all_tables, (12, 12), value, sign=True)
        self.assert_error(TooGreat(12), all_tables, (12, 1), (0, 0), sign=False)
        self.assert_error(TooGreat(12), all_tables, (0, 0), (12, 1), sign=True)
        self.assert_error(TooGreat(12), all_tables, (12, 12), (12, 12), sign=True)


def count_by_hand(content, sizes, most=12):
    """Return how many tables of items up to the most have the content and the sizes."""
    left = {tuple(sizes): 1}
    for number in content:
        behind = {}
        for sizes_left, count in left.items():
            for row in product(*[range(min(size, number, most) + 1) for size in sizes_left]):
                if sum(row) == number:
                    key = tuple(size - item for size, item in zip(sizes_left, row))
                    behind[key] = behind.get(key, 0) + count
        left = behind
    return sum(left.values())


class MovedTest(RaisingTest):
    def test_names(self):
        self.check_moves(by_hand.along, len, name_reading, transfer_names, exchange_names)

    def test_columns(self):
        self.check_moves(by_hand.across, lambda table: len(table[0]), column_reading, transfer_columns, exchange_columns)

    def check_moves(self, places_of, size_of, read, transfer, exchange):
        """Check readings, transfers and exchanges of each two names or columns."""
        for table, sign in SAMPLES:
            for one, other in permutations(range(size_of(table)), 2):
                low, high = min(one, other), max(one, other)
                places = places_of(table, low, high, sign)
                self.assertEqual(read(table, one, other, sign=sign), by_hand.text(places))
                led = by_hand.transfer(places, one, other)
                if led is None:
                    self.assert_error(NoFree(one, other), transfer, table, one, other, sign=sign)
                else:
                    self.assertEqual(transfer(table, one, other, sign=sign), led)
                if one < other:
                    string, place = by_hand.string(places_of, table, low, high, sign)
                    wanted = string[len(string) - 1 - place]
                    self.assertEqual(exchange(table, one, other, sign=sign), wanted)
                    self.assertEqual(exchange(table, other, one, sign=sign), wanted)

    def test_readings_of_columns_by_hand(self):
        table = ((1, 0), (0, 1), (1, 1), (1, 0))
        self.assertEqual(column_reading(table, 0, 1, sign=True), "()(")
        self.assertEqual(column_reading(((1, 2), (3, 0)), 1, 0, sign=False), "))((((")
        self.assertEqual(transfer_columns(table, 0, 1, sign=True), ((0, 1), (0, 1), (1, 1), (1, 0)))
        self.assertEqual(name_reading(((1, 2), (3, 0)), 0, 1, sign=False), ")))(((")

    def test_the_sizes_change_across_and_the_content_along(self):
        for table, sign in SAMPLES:
            content, sizes = table_content(table, sign=sign), table_sizes(table, sign=sign)
            names = exchange_names(table, 0, 1, sign=sign)
            self.assertEqual(table_sizes(names, sign=sign), sizes)
            self.assertEqual(table_content(names, sign=sign), (content[1], content[0]) + content[2:])
            columns = exchange_columns(table, 0, 1, sign=sign)
            self.assertEqual(table_content(columns, sign=sign), content)
            self.assertEqual(table_sizes(columns, sign=sign), (sizes[1], sizes[0]) + sizes[2:])

    def test_neighbours_along_and_across(self):
        for table, sign in SAMPLES:
            for low, column in product(range(len(table) - 1), range(len(table[0]) - 1)):
                for giver, taker in ((low, low + 1), (low + 1, low)):
                    for source, goal in ((column, column + 1), (column + 1, column)):
                        first = self.led(transfer_names, table, giver, taker, sign)
                        second = self.led(transfer_columns, table, source, goal, sign)
                        both = first and self.led(transfer_columns, first, source, goal, sign)
                        # Neither creates or removes the other, and both orders lead to the same table.
                        self.assertEqual(first is not None and second is not None, both is not None)
                        if both is not None:
                            self.assertEqual(self.led(transfer_names, second, giver, taker, sign), both)
                one = exchange_columns(exchange_names(table, low, low + 1, sign=sign), column, column + 1, sign=sign)
                two = exchange_names(exchange_columns(table, column, column + 1, sign=sign), low, low + 1, sign=sign)
                self.assertEqual(one, two)

    def led(self, transfer, table, giver, taker, sign):
        try:
            return transfer(table, giver, taker, sign=sign)
        except NoFree:
            return None

    def test_errors_in_their_order(self):
        table = ((1, 0), (0, 1), (1, 1))
        for call, size in ((name_reading, 3), (transfer_names, 3), (exchange_names, 3), (column_reading, 2),
                           (transfer_columns, 2), (exchange_columns, 2)):
            for sign in (True, False):
                for value in (size, -1, *ODD_VALUES):
                    self.assert_error(BadName(value), call, table, value, None, sign=sign)
                    self.assert_error(BadName(value), call, table, 0, value, sign=sign)
                    self.assert_error(BadName(value), call, table, value, value, sign=sign)
                self.assert_error(SameName(1), call, table, 1, 1, sign=sign)
        for sign in (True, False):
            zeros = ((0, 0), (0, 0))
            self.assert_error(NoFree(1, 0), transfer_names, zeros, 1, 0, sign=sign)
            self.assert_error(NoFree(0, 1), transfer_columns, zeros, 0, 1, sign=sign)
