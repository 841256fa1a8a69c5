"""Lists of members and their numbers: promises [3] for the order, [16]."""

from unithouse.errors import BadIndex, BadMany, BadMember, BadSort, TooGreat
from unithouse.listing import index_of, member_at, members, page
from unithouse.members import is_member
from unithouse.sorts import how_many

from tests import reference
from tests.raising import RaisingTest
from tests.samples import EMPTY, GREAT, GREATEST, NONE, ODD_VALUES, ONE, SMALL, TEN, TWO_KINDS

# Few members, but parts with more than can be listed.
FEW_OF_MANY = (
    (3, ("list", 0, GREATEST), [()]),
    (3, ("pair", NONE, ("list", 2, ("list", 10, TEN))), []),
    (3, ("pair", ("list", 2, ("list", 10, TEN)), NONE), []),
    (3, ("list", 2, ("pair", NONE, ("list", 10, TEN))), []),
    (3, ("either", ("pair", NONE, ("list", 10, TEN)), ONE), [(1, 0), (1, 1), (1, 2)]),
)


class MembersTest(RaisingTest):
    def test_examples(self):
        self.assertEqual(members(3, ("heap", 2, ONE)), [(0, 0), (0, 1), (0, 2), (1, 1), (1, 2), (2, 2)])
        self.assertEqual(members(3, ("subset", 4)), [])
        self.assertEqual(index_of(3, ("family", 2, ("subset", 2)), ((0, 1), (1, 2))), 1)

    def test_of_each_word(self):
        for many, sort in SMALL:
            found = members(many, sort)
            self.assertIsInstance(found, list)
            self.assertEqual(found, reference.all_members(many, sort), (many, sort))
            self.assertTrue(all(one < other for one, other in zip(found, found[1:])))
            self.assertEqual(len(found), how_many(many, sort))
            self.assertTrue(all(is_member(many, sort, member) for member in found))

    def test_two_thousand_and_more(self):
        two_thousand = ("pair", ("either", EMPTY, EMPTY), ("list", 3, TEN))
        self.assertEqual(len(members(3, two_thousand)), 2000)
        one_more = ("either", two_thousand, EMPTY)
        self.assert_error(TooGreat(2000), members, 3, one_more)
        for many, sort in GREAT:
            if how_many(many, sort) > 2000:
                self.assert_error(TooGreat(2000), members, many, sort)

    def test_few_members_of_great_parts(self):
        for many, sort, found in FEW_OF_MANY:
            self.assertEqual(members(many, sort), found)
            self.assertEqual(page(many, sort), found)

    def test_a_changed_list_changes_nothing_else(self):
        members(3, ("subset", 2)).clear()
        page(3, ("subset", 2)).append(5)
        self.assertEqual(members(3, ("subset", 2)), [(0, 1), (0, 2), (1, 2)])
        self.assertEqual(page(3, ("subset", 2)), [(0, 1), (0, 2), (1, 2)])

    def test_the_sorts_errors_go_ahead(self):
        for many, sort, error in ((1, 5, BadMany(1)), (3, 5, BadSort(())), (3, ("bag", 13), BadSort(())),
                                  (3, ("list", 2, ("bag", 12)), TooGreat(12))):
            self.assert_error(error, members, many, sort)
            self.assert_error(error, page, many, sort, start=-1)
            self.assert_error(error, member_at, many, sort, -1)
            self.assert_error(error, index_of, many, sort, None)


class NumbersTest(RaisingTest):
    def test_there_and_back(self):
        for many, sort in SMALL:
            found = reference.all_members(many, sort)
            self.assertEqual([member_at(many, sort, index) for index in range(len(found))], found)
            self.assertEqual([index_of(many, sort, member) for member in found], list(range(len(found))))

    def test_great_sorts(self):
        for many, sort in GREAT:
            total = how_many(many, sort)
            indexes = sorted({0, 1, total // 3, total // 2, total - 2, total - 1, *range(0, total, total // 7)})
            found = [member_at(many, sort, index) for index in indexes]
            self.assertEqual(found, sorted(found))
            for index, member in zip(indexes, found):
                self.assertTrue(is_member(many, sort, member))
                self.assertEqual(index_of(many, sort, member), index)
            self.assert_error(BadIndex(total), member_at, many, sort, total)

    def test_the_ends_of_great_sorts(self):
        self.assertEqual(member_at(5, ("list", 12, ONE), 0), (0,) * 12)
        self.assertEqual(member_at(5, ("list", 12, ONE), 5 ** 12 - 1), (4,) * 12)
        self.assertEqual(member_at(5, ("list", 12, ONE), 7), (0,) * 10 + (1, 2))
        self.assertEqual(index_of(5, ("bag", 12), (4,) * 12), 1819)
        self.assertEqual(member_at(5, ("bag", 12), 1), (0,) * 11 + (1,))
        self.assertEqual(member_at(4, ("rounds", 2), 1), ((0, 0), (0, 0), (0, 0), (1, 1), (1, 1), (2, 3)))

    def test_wrong_indexes(self):
        for value in (-1, 3, True, False, None, "0", 0.0, (0,), 10 ** 31):
            self.assert_error(BadIndex(value), member_at, 3, ONE, value)
        self.assert_error(BadIndex(0), member_at, 3, NONE, 0)

    def test_what_is_no_member(self):
        for value in (3, -1, (0,), *ODD_VALUES):
            self.assert_error(BadMember(value), index_of, 3, ONE, value)
        self.assert_error(BadMember(((0, 0), (0, 0))), index_of, 3, ("family", 2, TWO_KINDS), ((0, 0), (0, 0)))


class PageTest(RaisingTest):
    SORT = ("list", 3, ONE)

    def test_pages(self):
        found = reference.all_members(3, self.SORT)
        for start in range(28):
            self.assertEqual(page(3, self.SORT, start=start), found[start:start + 10])
            for count in (0, 1, 5, 26, 27, 28, 100):
                self.assertEqual(page(3, self.SORT, start=start, count=count), found[start:start + count])

    def test_defaults(self):
        found = reference.all_members(3, self.SORT)
        self.assertEqual(page(3, self.SORT), found[:10])
        self.assertEqual(page(3, self.SORT, count=3), found[:3])
        self.assertEqual(page(3, ("subset", 4)), [])

    def test_pages_of_a_great_sort(self):
        total = how_many(3, GREATEST)
        found = page(3, GREATEST, start=total - 3, count=100)
        self.assertEqual([index_of(3, GREATEST, member) for member in found], [total - 3, total - 2, total - 1])
        self.assertEqual(len(page(3, GREATEST, start=total // 2, count=100)), 100)
        self.assertEqual(page(3, GREATEST, start=total), [])

    def test_wrong_starts_and_counts(self):
        for value in (-1, 28, True, False, None, "0", 0.0, (0,)):
            self.assert_error(BadIndex(value), page, 3, self.SORT, start=value)
            self.assert_error(BadIndex(value), page, 3, self.SORT, start=value, count=-1)
        for value in (-1, 101, True, False, None, "0", 0.0, (0,)):
            self.assert_error(BadIndex(value), page, 3, self.SORT, count=value)
            self.assert_error(BadIndex(value), page, 3, self.SORT, start=27, count=value)

    def test_start_and_count_are_passed_by_name(self):
        with self.assertRaises(TypeError):
            page(3, self.SORT, 0)
