"""Names, sorts, parts and how many members: promises [1] to [4], [10] to [13]."""

from unithouse.errors import BadMany, BadName, BadPath, BadSort, SameName, TooGreat
from unithouse.sorts import (how_many, is_single, is_sort, marks, need_many, need_pair, need_sort, part_at, parts,
                             put_at, width)

from tests.raising import RaisingTest
from tests.reference import all_members
from tests.samples import (EMPTY, GREATEST, NONE, ODD_VALUES, ONE, SMALL, TEN, TOO_MANY, TWO_KINDS, balanced, deep)

BAG_12 = ("bag", 12)
# 40 wide, without a mark.
WIDE = ("list", 10, ("pair", ("pair", EMPTY, EMPTY), ("pair", EMPTY, EMPTY)))

RIGHT_FORMS = (
    NONE, ONE, ("subset", 0), ("subset", 12), ("bag", 0), ("bag", 12), ("either", ONE, NONE), ("pair", ONE, NONE),
    ("list", 0, ONE), ("list", 12, ONE), ("family", 0, ONE), ("family", 12, ONE), ("heap", 0, ONE), ("heap", 12, ONE),
    ("rounds", 1), ("rounds", 2), ("trees",), ("rooted",),
)

WRONG_FORMS = (
    (), ("",), ("two",), ("One",), ("one", 1), ("none", NONE), ("trees", 2), ("rooted", 0), (ONE,), (1,), (True,),
    ("subset",), ("subset", 1, 2), ("subset", -1), ("subset", 13), ("subset", True), ("subset", False),
    ("subset", 1.0), ("subset", "1"), ("subset", None), ("subset", (1,)), ("subset", ONE), ("subset", 10 ** 40),
    ("bag",), ("bag", 1, 1), ("bag", -1), ("bag", 13), ("bag", True), ("bag", None), ("bag", [1]),
    ("either",), ("either", ONE), ("either", ONE, ONE, ONE),
    ("pair",), ("pair", ONE), ("pair", ONE, ONE, ONE),
    ("list",), ("list", 1), ("list", 1, ONE, ONE), ("list", -1, ONE), ("list", 13, ONE), ("list", True, ONE),
    ("list", ONE, 1), ("list", None, ONE),
    ("family",), ("family", 1), ("family", 1, ONE, ONE), ("family", -1, ONE), ("family", 13, ONE),
    ("family", True, ONE), ("family", "2", ONE),
    ("heap",), ("heap", 1), ("heap", 1, ONE, ONE), ("heap", -1, ONE), ("heap", 13, ONE), ("heap", False, ONE),
    ("rounds",), ("rounds", 0), ("rounds", 3), ("rounds", True), ("rounds", -1), ("rounds", 1, 1), ("rounds", "1"),
    ["one"], ["subset", 1], [], {"one"}, "one", b"one", None, True, 0, 1, 1.5, (["one"],), ({},), (b"one",), (None,),
)


class NamesTest(RaisingTest):
    def test_need_many(self):
        for many in (2, 3, 4, 5):
            self.assertIs(need_many(many), many)
        for value in (1, 6, 0, -1, True, False, None, "3", "", (3,), [3], 3.0, 10 ** 30):
            self.assert_error(BadMany(value), need_many, value)

    def test_need_pair(self):
        self.assertEqual(need_pair(3, 0, 2), (0, 2))
        self.assertEqual(need_pair(3, 2, 0), (0, 2))
        self.assertEqual(need_pair(2, 1, 0), (0, 1))
        self.assertEqual(need_pair(many=5, one=4, other=3), (3, 4))

    def test_need_pair_refuses_what_is_no_name(self):
        for value in (-1, 3, True, False, None, "a", 1.0, (1,), [1]):
            self.assert_error(BadName(value), need_pair, 3, value, 1)
            self.assert_error(BadName(value), need_pair, 3, 1, value)
            self.assert_error(BadName(value), need_pair, 3, value, 7)
            self.assert_error(BadName(value), need_pair, 3, value, value)
        self.assert_error(BadName(2), need_pair, 2, 2, 0)

    def test_need_pair_refuses_two_equal_ones(self):
        self.assert_error(SameName(0), need_pair, 3, 0, 0)
        self.assert_error(SameName(2), need_pair, 3, 2, 2)

    def test_many_is_refused_first(self):
        self.assert_error(BadMany(6), need_pair, 6, 9, 9)
        for call in (need_sort, is_sort, is_single, marks, width, how_many, parts):
            for many in (1, 6, True, None, "3"):
                self.assert_error(BadMany(many), call, many, 5)
        self.assert_error(BadMany(1), part_at, 1, 5, 5)
        self.assert_error(BadMany(1), put_at, 1, 5, 5, 5)


class NeedSortTest(RaisingTest):
    def assert_sort(self, many, value):
        self.assertIs(need_sort(many, value), value)
        self.assertIs(is_sort(many, value), True)

    def assert_refused(self, error, many, value):
        self.assert_error(error, need_sort, many, value)
        self.assertIs(is_sort(many, value), False)
        for call in (is_single, marks, width, how_many, parts):
            self.assert_error(error, call, many, value)
        self.assert_error(error, part_at, many, value, 5)
        self.assert_error(error, put_at, many, value, 5, 5)

    def test_right_forms(self):
        for sort in RIGHT_FORMS:
            self.assert_sort(3, sort)
        for many, sort in SMALL:
            self.assert_sort(many, sort)

    def test_wrong_forms(self):
        for value in WRONG_FORMS:
            self.assert_refused(BadSort(()), 3, value)
            self.assert_refused(BadSort((2,)), 3, ("pair", ONE, value))
            self.assert_refused(BadSort((1,)), 3, ("either", value, ONE))
            for word in ("list", "family", "heap"):
                self.assert_refused(BadSort((2,)), 3, (word, 0, value))

    def test_examples(self):
        self.assert_refused(BadSort((2,)), 3, ("family", 2, ("bag", 2)))
        self.assert_refused(BadSort((2, 2)), 3, ("list", 2, ("either", ONE, 5)))

    def test_the_first_wrong_thing_is_told(self):
        self.assert_refused(BadSort(()), 3, ("pair", 5, 5, 5))
        self.assert_refused(BadSort(()), 3, ("list", 13, 5))
        self.assert_refused(BadSort((1,)), 3, ("pair", 5, 5))
        self.assert_refused(BadSort((1, 2)), 3, ("pair", ("either", ONE, 5), 5))
        self.assert_refused(BadSort((1,)), 3, ("pair", ("either", 5), ("subset", -1)))
        self.assert_refused(BadSort((2, 1, 2)), 3, ("list", 2, ("pair", ("heap", 2, 5), 5)))

    def test_what_is_not_single(self):
        not_single = (("bag", 2), ("pair", ONE, ONE), ("list", 1, ONE), ("family", 1, ONE), ("heap", 1, ONE),
                      ("rounds", 1), ("trees",), ("rooted",), ("either", ONE, ("bag", 1)),
                      ("either", ("either", ("bag", 0), ONE), ONE), ("list", 0, ONE))
        for sort in not_single:
            for word in ("family", "heap"):
                self.assert_refused(BadSort((2,)), 3, (word, 1, sort))
                self.assert_refused(BadSort((2,)), 3, (word, 0, sort))
                self.assert_refused(BadSort((1, 2)), 3, ("pair", (word, 1, sort), ONE))

    def test_wrong_things_beside_what_is_not_single(self):
        wide = ("family", 2, ("bag", 2))
        self.assert_refused(BadSort((1,)), 3, ("pair", 5, wide))
        self.assert_refused(BadSort((1, 2)), 3, ("pair", wide, 5))
        self.assert_refused(BadSort((2, 2)), 3, ("family", 2, ("pair", ONE, 5)))
        self.assert_refused(BadSort((2, 2)), 3, ("family", 2, ("pair", ONE, ("heap", 1))))
        self.assert_refused(BadSort((2, 2, 2)), 3, ("family", 2, ("pair", ONE, wide)))
        self.assert_refused(BadSort((2, 1, 2)), 3, ("heap", 2, ("either", wide, 5)))
        self.assert_refused(BadSort((1, 2)), 3, ("pair", wide, deep(10)))
        self.assert_refused(TooGreat(10), 3, ("pair", deep(10), wide))
        self.assert_refused(TooGreat(10), 3, ("family", 1, ("pair", ONE, deep(9))))

    def test_depth(self):
        self.assert_sort(3, deep(10))
        self.assert_refused(TooGreat(10), 3, deep(11))
        self.assert_refused(TooGreat(10), 3, deep(11, last=5))
        self.assert_refused(TooGreat(10), 3, deep(30))
        self.assert_refused(BadSort((1,) * 9), 3, deep(10, last=5))
        # At the eleventh thing, and beside the one that holds it.
        self.assert_refused(TooGreat(10), 3, deep(10, last=("pair", 5, 5)))
        self.assert_refused(BadSort((1,) * 9), 3, deep(10, last=("pair", 5)))
        self.assert_refused(BadSort((1,)), 3, ("pair", 5, deep(10)))
        self.assert_refused(TooGreat(10), 3, ("pair", deep(10), 5))
        self.assert_refused(TooGreat(10), 3, deep(10, last=("list", 0, ONE)))

    def test_number_of_parts(self):
        thirty = balanced(NONE, 30)
        self.assertEqual(len(parts(3, thirty)), 59)
        self.assert_sort(3, ("list", 1, thirty))
        self.assert_refused(TooGreat(60), 3, balanced(NONE, 31))
        self.assert_refused(TooGreat(60), 3, ("list", 0, ("list", 1, thirty)))
        # The 61st thing is not looked at, the 60th one is, and so are those ahead of it.
        self.assert_refused(TooGreat(60), 3, ("pair", thirty, 5))
        self.assert_refused(BadSort((2,)), 3, ("pair", balanced(NONE, 29), 5))
        self.assert_refused(BadSort((2, 2)), 3, ("pair", balanced(NONE, 29), ("list", 1, 5)))
        self.assert_refused(BadSort((2,)), 3, ("list", 1, 5))
        self.assert_refused(BadSort((1,)), 3, ("pair", 5, balanced(NONE, 31)))

    def test_a_part_is_met_wherever_it_stands(self):
        part = balanced(NONE, 8)
        whole = ("pair", ("pair", part, part), ("pair", part, part))
        self.assert_refused(TooGreat(60), 3, whole)
        self.assert_sort(3, ("pair", ("pair", part, part), part))

    def test_the_eleventh_goes_ahead_of_the_61st(self):
        # Ahead of the last thing of deep(10) are the pair, the 50 things of the first part, and 9 more.
        fifty = ("list", 1, balanced(NONE, 25))
        self.assert_refused(TooGreat(10), 3, ("pair", fifty, deep(10)))
        self.assert_refused(TooGreat(10), 3, ("pair", fifty, deep(10, last=5)))
        self.assert_refused(TooGreat(60), 3, ("pair", ("list", 1, fifty), deep(10)))

    def test_marks_bound(self):
        self.assert_sort(3, BAG_12)
        self.assert_sort(3, ("pair", ("bag", 11), ONE))
        self.assert_refused(TooGreat(12), 3, ("pair", BAG_12, ONE))
        self.assert_sort(2, ("list", 12, ONE))
        self.assert_refused(TooGreat(12), 2, ("list", 7, ("bag", 2)))
        self.assert_sort(4, ("rounds", 2))
        self.assert_sort(5, ("rounds", 1))
        self.assert_refused(TooGreat(12), 5, ("rounds", 2))
        # Only the whole is bound: below a list of 0 there may be more.
        self.assert_sort(3, ("list", 0, ("pair", BAG_12, ONE)))
        self.assert_sort(5, ("list", 0, ("rounds", 2)))

    def test_width_bound(self):
        self.assert_sort(3, WIDE)
        self.assertEqual(width(3, WIDE), 40)
        self.assert_refused(TooGreat(40), 3, ("pair", WIDE, EMPTY))
        self.assert_refused(TooGreat(40), 3, ("pair", NONE, WIDE))
        self.assert_sort(3, ("list", 0, ("pair", WIDE, EMPTY)))

    def test_members_bound(self):
        self.assert_sort(3, GREATEST)
        self.assertEqual(how_many(3, GREATEST), 10 ** 30)
        self.assert_refused(TooGreat(10 ** 30), 3, TOO_MANY)
        # A part is bound, too, however few members the whole has.
        self.assert_sort(3, ("list", 0, GREATEST))
        self.assert_refused(TooGreat(10 ** 30), 3, ("list", 0, TOO_MANY))
        self.assert_refused(TooGreat(10 ** 30), 3, ("pair", NONE, TOO_MANY))
        huge = BAG_12
        for _ in range(7):
            huge = ("list", 12, huge)
        self.assert_refused(TooGreat(10 ** 30), 5, ("list", 0, huge))

    def test_two_bounds_at_once(self):
        self.assert_refused(TooGreat(12), 3, ("pair", ("pair", BAG_12, ONE), WIDE))
        self.assert_refused(TooGreat(12), 3, ("pair", ("pair", BAG_12, ONE), TOO_MANY))
        self.assert_refused(TooGreat(40), 3, ("list", 4, ("list", 12, TEN)))
        self.assert_refused(TooGreat(60), 3, ("list", 12, ("list", 2, balanced(ONE, 30))))
        self.assert_refused(TooGreat(10), 3, ("list", 12, ("pair", BAG_12, deep(9))))
        self.assert_refused(BadSort((2,)), 3, ("pair", ("pair", BAG_12, ONE), 5))


class MeasuresTest(RaisingTest):
    def test_is_single(self):
        single = (NONE, ONE, ("subset", 0), ("subset", 5), ("either", ONE, NONE), TWO_KINDS,
                  ("either", ("either", ONE, ("subset", 1)), ("either", NONE, ("either", ONE, ONE))))
        others = (("bag", 0), ("bag", 1), ("pair", ONE, ONE), ("list", 0, ONE), ("family", 1, ONE), ("heap", 0, ONE),
                  ("rounds", 1), ("trees",), ("rooted",), ("either", ONE, ("bag", 1)), ("either", ("bag", 1), ONE),
                  ("either", ("either", ONE, ONE), ("either", ONE, ("trees",))))
        for sort in single:
            self.assertIs(is_single(3, sort), True)
        for sort in others:
            self.assertIs(is_single(3, sort), False)

    def test_marks(self):
        self.assertEqual(marks(3, ("pair", ("rounds", 1), ("subset", 2))), 5)
        told = (
            (3, NONE, 0), (3, ONE, 1), (3, ("subset", 7), 7), (3, ("bag", 4), 4), (3, ("either", ("bag", 4), ONE), 4),
            (3, ("either", ONE, ("bag", 4)), 4), (3, ("pair", ("bag", 4), ONE), 5), (3, ("list", 3, ("bag", 2)), 6),
            (3, ("family", 3, ("subset", 2)), 6), (3, ("heap", 4, ("subset", 3)), 12), (3, ("list", 0, ONE), 0),
            (2, ("rounds", 1), 1), (3, ("rounds", 2), 6), (4, ("rounds", 2), 12), (5, ("rounds", 1), 10),
            (2, ("trees",), 2), (3, ("trees",), 4), (5, ("trees",), 8), (2, ("rooted",), 1), (5, ("rooted",), 4),
            (3, ("list", 0, ("pair", BAG_12, BAG_12)), 0),
        )
        for many, sort, number in told:
            self.assertEqual(marks(many, sort), number)

    def test_width(self):
        told = (
            (NONE, 1), (ONE, 1), (("subset", 7), 1), (("bag", 4), 1), (("rounds", 2), 1), (("trees",), 1),
            (("rooted",), 1), (("either", ("pair", ONE, ONE), ONE), 2), (("either", ONE, ("list", 3, ONE)), 3),
            (("pair", ("list", 3, ONE), ONE), 4), (("list", 3, ("pair", ONE, ONE)), 6), (("family", 4, ONE), 4),
            (("heap", 5, TWO_KINDS), 5), (("list", 0, ONE), 0), (("pair", ("heap", 0, ONE), ("family", 0, ONE)), 0),
        )
        for sort, number in told:
            self.assertEqual(width(3, sort), number)

    def test_how_many_beside_a_listing(self):
        for many, sort in SMALL:
            self.assertEqual(how_many(many, sort), len(all_members(many, sort)), (many, sort))

    def test_how_many_of_each_word(self):
        told = (
            (5, NONE, 0), (5, ONE, 5), (5, ("subset", 2), 10), (5, ("subset", 5), 1), (5, ("subset", 6), 0),
            (5, ("bag", 0), 1), (5, ("bag", 3), 35), (5, BAG_12, 1820), (5, ("either", ONE, ("subset", 2)), 15),
            (5, ("pair", ONE, ("subset", 2)), 50), (5, ("list", 12, ONE), 5 ** 12), (5, ("list", 0, NONE), 1),
            (5, ("list", 3, NONE), 0), (5, ("family", 3, ("subset", 2)), 120), (5, ("family", 6, ONE), 0),
            (5, ("family", 0, NONE), 1), (5, ("heap", 3, ("subset", 2)), 220), (5, ("heap", 0, NONE), 1),
            (5, ("heap", 4, NONE), 0), (5, ("rounds", 1), 2 ** 10), (4, ("rounds", 2), 2 ** 12), (5, ("trees",), 125),
            (5, ("rooted",), 625), (2, ("trees",), 1), (2, ("rooted",), 2),
        )
        for many, sort, number in told:
            self.assertEqual(how_many(many, sort), number, (many, sort))

    def test_how_many_of_many(self):
        self.assertEqual(how_many(5, ("list", 2, ("list", 10, TEN))), 10 ** 20)
        self.assertEqual(how_many(2, ("heap", 12, balanced(EMPTY, 29))), 5586853480)
        self.assertEqual(how_many(5, ("pair", ("list", 0, GREATEST), ("rooted",))), 625)


class PartsTest(RaisingTest):
    SORT = ("pair", ("list", 2, ("either", ONE, ("subset", 2))), ("heap", 3, ("either", ("subset", 1), NONE)))
    PATHS = [(), (1,), (1, 2), (1, 2, 1), (1, 2, 2), (2,), (2, 2), (2, 2, 1), (2, 2, 2)]

    def test_parts(self):
        found = parts(3, self.SORT)
        self.assertEqual([path for path, _ in found], self.PATHS)
        self.assertEqual(found[0], ((), self.SORT))
        self.assertEqual(found[3], ((1, 2, 1), ONE))
        self.assertEqual(found[6], ((2, 2), ("either", ("subset", 1), NONE)))
        self.assertTrue(all(isinstance(row, tuple) for row in found))
        self.assertEqual(parts(2, ("rounds", 2)), [((), ("rounds", 2))])

    def test_part_at_each_path(self):
        for path, part in parts(3, self.SORT):
            self.assertEqual(part_at(3, self.SORT, path), part)

    def test_wrong_paths(self):
        wrong = [(0,), (3,), (-1,), (1, 1), (1, 0), (1, 2, 3), (1, 2, 1, 0), (1, 2, 2, 1), (2, 1), (True,), (1.0,),
                 (1, True), (1, 2, True), (1, -1), ("1",), (None,), ((1,),), ([],), [], [1], "", "1", 1, 0, None, True,
                 {}, (2 ** 70,), (1,) * 20]
        for path in wrong:
            self.assert_error(BadPath(path), part_at, 3, self.SORT, path)
            self.assert_error(BadPath(path), put_at, 3, self.SORT, path, ONE)
            self.assert_error(BadPath(path), put_at, 3, self.SORT, path, 5)
        self.assert_error(BadPath((1,)), part_at, 3, ("subset", 1), (1,))
        self.assert_error(BadPath((0,)), part_at, 3, ONE, (0,))

    def test_put_at(self):
        self.assertEqual(put_at(3, self.SORT, (), ONE), ONE)
        self.assertEqual(put_at(3, self.SORT, (1,), ("trees",)), ("pair", ("trees",), self.SORT[2]))
        self.assertEqual(put_at(3, self.SORT, (2, 2, 2), TWO_KINDS),
                         ("pair", self.SORT[1], ("heap", 3, ("either", ("subset", 1), TWO_KINDS))))
        for path, part in parts(3, self.SORT):
            self.assertEqual(put_at(3, self.SORT, path, part), self.SORT)

    def test_put_at_checks_what_comes(self):
        for value in ODD_VALUES:
            for path in self.PATHS:
                self.assert_error(BadSort(path), put_at, 3, self.SORT, path, value)
        self.assert_error(BadSort((1, 2, 1, 2)), put_at, 3, self.SORT, (1, 2, 1), ("pair", ONE, 5))
        self.assert_error(BadSort((2, 2)), put_at, 3, self.SORT, (2, 2, 1), ("bag", 1))
        self.assert_error(BadSort((2, 2)), put_at, 3, self.SORT, (2, 2), ("trees",))
        self.assert_error(TooGreat(12), put_at, 3, self.SORT, (1, 2), ("bag", 6))
        self.assert_error(TooGreat(40), put_at, 3, ("pair", WIDE, ("list", 0, ONE)), (2,), ("subset", 0))
        self.assert_error(TooGreat(10), put_at, 3, deep(10), (1,) * 9, ("either", ONE, ONE))
        self.assert_error(TooGreat(60), put_at, 3, ("list", 1, balanced(NONE, 30)), (2, 2), balanced(NONE, 16))
        self.assert_error(TooGreat(10 ** 30), put_at, 3, ("list", 0, ONE), (2,), TOO_MANY)

    def test_a_changed_list_changes_nothing_else(self):
        found = parts(3, self.SORT)
        found.clear()
        self.assertEqual(len(parts(3, self.SORT)), 9)
        self.assertEqual(part_at(3, self.SORT, (1, 2, 1)), ONE)
