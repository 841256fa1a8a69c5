"""The last name taken out: promises [34] to [39]."""

import unittest
from itertools import combinations, permutations

from unithouse.counts import count_at, counts
from unithouse.errors import BadContent, BadMany, BadMember, BadSort, BadTotal, TooGreat
from unithouse.listing import member_at, members
from unithouse.members import content_of
from unithouse.readings import reading, transfers
from unithouse.sorts import how_many, is_sort, parts
from unithouse.strings import exchange
from unithouse.takenout import counted_out, last_marks, put_back, taken_apart, taken_out

from tests import reference, reference_taken
from tests.raising import RaisingTest
from tests.samples import EMPTY, GREAT, GREATEST, NONE, ODD_VALUES, ONE, SMALL, TEN, TOO_MANY, TWO_KINDS, deep

PAIR_OF_ONES = ("either", ONE, ONE)
PLACES = ("either", EMPTY, EMPTY)

# Of each word of the table, with each of its lines.
MORE = (
    (3, ("subset", 3)),
    (5, ("subset", 3)),
    (5, ("bag", 3)),
    (4, ("either", ("subset", 4), ("bag", 2))),
    (4, ("pair", ("trees",), ONE)),
    (5, ("list", 3, ONE)),
    (4, ("list", 4, ONE)),
    (3, ("list", 0, ("bag", 2))),
    (3, ("list", 0, ("subset", 3))),
    (3, ("list", 1, ("subset", 3))),
    (3, ("list", 2, ("subset", 3))),
    (3, ("list", 2, ("subset", 1))),
    (3, ("list", 3, ("either", ONE, EMPTY))),
    (4, ("list", 2, ("list", 2, ONE))),
    (3, ("list", 2, ("list", 2, ("subset", 2)))),
    (3, ("list", 1, ("list", 1, ("list", 1, ("bag", 2))))),
    (3, ("list", 2, ("pair", EMPTY, ("either", NONE, ONE)))),
    (3, ("family", 0, ("subset", 3))),
    (3, ("family", 1, ("subset", 3))),
    (3, ("heap", 2, ("subset", 3))),
    (3, ("family", 2, EMPTY)),
    (3, ("heap", 3, EMPTY)),
    (4, ("family", 3, TWO_KINDS)),
    (4, ("heap", 3, TWO_KINDS)),
    (5, ("heap", 2, ("either", ("subset", 5), ("subset", 3)))),
    (4, ("rounds", 2)),
    (3, ("pair", ("rounds", 1), ("rounds", 2))),
    (3, ("list", 2, ("rooted",))),
    (5, ("rooted",)),
)
ALL = tuple((many, sort) for many, sort in SMALL + MORE if many > 2)
FEW = tuple((many, sort) for many, sort in ALL if how_many(many, sort) <= 800)


def fits(many, sort, marks):
    """Whether the sort of so many marks stays within the bounds."""
    return is_sort(many - 1, reference_taken.T(many, sort, marks))


class SortsTest(RaisingTest):
    def test_examples(self):
        told = ("pair", ("family", 1, PLACES), ("list", 1, ONE))
        self.assertEqual(taken_out(3, ("list", 2, ONE), 1), told)
        self.assertEqual(last_marks(3, ("trees",)), [1, 2])
        self.assertEqual(taken_out(3, ("bag", 2), 3), NONE)

    def test_each_line_of_the_table(self):
        two = ("either", ONE, EMPTY)
        told = (
            (4, ONE, {0: ONE, 1: EMPTY}),
            (4, NONE, {}),
            (4, EMPTY, {0: EMPTY}),
            (4, ("subset", 3), {0: ("subset", 3), 1: ("subset", 2)}),
            (4, ("subset", 4), {1: ("subset", 3)}),
            (4, ("subset", 5), {}),
            (4, ("bag", 0), {0: ("bag", 0)}),
            (4, ("bag", 2), {0: ("bag", 2), 1: ("bag", 1), 2: ("bag", 0)}),
            (4, two, {0: two, 1: EMPTY}),
            (4, ("either", ("subset", 4), ONE), {0: ONE, 1: ("either", ("subset", 3), EMPTY)}),
            (4, ("pair", ONE, ONE), {0: ("pair", ONE, ONE), 2: ("pair", EMPTY, EMPTY),
                                     1: ("either", ("pair", ONE, EMPTY), ("pair", EMPTY, ONE))}),
            (4, ("pair", ("subset", 4), NONE), {}),
            (4, ("list", 0, ONE), {0: ("list", 0, ONE)}),
            (4, ("list", 0, ("subset", 4)), {0: ("list", 0, NONE)}),
            (4, ("list", 0, NONE), {0: ("list", 0, NONE)}),
            (4, ("list", 0, ("pair", ONE, ONE)), {0: ("list", 0, ("pair", ONE, ONE))}),
            (4, ("list", 0, ("either", ("subset", 4), ONE)), {0: ("list", 0, ONE)}),
            (4, ("list", 0, ("list", 2, ("bag", 1))), {0: ("list", 0, ("list", 2, ("bag", 1)))}),
            (4, ("list", 0, ("heap", 2, ONE)), {0: ("list", 0, ("pair", ("heap", 2, ONE), ("heap", 0, EMPTY)))}),
            (4, ("list", 0, ("trees",)), {0: ("list", 0, NONE)}),
            (4, ("list", 1, NONE), {}),
            (4, ("list", 1, ("subset", 4)), {1: ("pair", ("subset", 3), ("list", 0, NONE))}),
            (4, ("list", 1, ONE), {0: ("list", 1, ONE), 1: ("pair", ("family", 1, EMPTY), ("list", 0, ONE))}),
            (4, ("list", 2, ONE), {0: ("list", 2, ONE), 1: ("pair", ("family", 1, PLACES), ("list", 1, ONE)),
                                   2: ("pair", ("family", 2, PLACES), ("list", 0, ONE))}),
            (4, ("list", 1, ("bag", 1)), {0: ("list", 1, ("bag", 1)),
                                          1: ("pair", ("bag", 0), ("list", 0, ("bag", 1)))}),
            (4, ("list", 2, ("bag", 1)), {
                0: ("list", 2, ("bag", 1)),
                1: ("either", ("pair", ("bag", 1), ("pair", ("bag", 0), ("list", 0, ("bag", 1)))),
                    ("pair", ("bag", 0), ("list", 1, ("bag", 1)))),
                2: ("pair", ("bag", 0), ("pair", ("bag", 0), ("list", 0, ("bag", 1))))}),
            (4, ("family", 2, ONE), {0: ("pair", ("family", 2, ONE), ("family", 0, EMPTY)),
                                     1: ("pair", ("family", 1, ONE), ("family", 1, EMPTY)),
                                     2: ("pair", ("family", 0, ONE), ("family", 2, EMPTY))}),
            (4, ("heap", 1, ("subset", 4)), {1: ("pair", ("heap", 0, NONE), ("heap", 1, ("subset", 3)))}),
            (4, ("family", 1, EMPTY), {0: ("pair", ("family", 1, EMPTY), ("family", 0, NONE))}),
            (4, ("heap", 0, NONE), {0: ("pair", ("heap", 0, NONE), ("heap", 0, NONE))}),
            (4, ("heap", 1, NONE), {}),
            (4, ("rounds", 1), {j: ("pair", ("rounds", 1), ("family", 3 - j, ONE)) for j in range(4)}),
            (4, ("rounds", 2), {j: ("pair", ("rounds", 2), ("family", 6 - j, PAIR_OF_ONES)) for j in range(7)}),
            (4, ("trees",), {1: ("pair", ("subset", 3), ("list", 2, ONE)),
                             2: ("pair", ("subset", 3), ("pair", ("family", 1, PLACES), ("list", 1, ONE))),
                             3: ("pair", ("subset", 3), ("pair", ("family", 2, PLACES), ("list", 0, ONE)))}),
            (3, ("rooted",), {0: ("list", 2, ONE), 1: ("pair", ("family", 1, PLACES), ("list", 1, ONE)),
                              2: ("pair", ("family", 2, PLACES), ("list", 0, ONE))}),
        )
        for many, sort, found in told:
            for marks in range(25):
                self.assertEqual(taken_out(many, sort, marks), found.get(marks, NONE), (many, sort, marks))
            self.assertEqual(last_marks(many, sort), sorted(found), (many, sort))

    def test_a_sum_of_three(self):
        sort = ("either", ("subset", 3), ("either", ONE, ("either", NONE, ("bag", 1))))
        self.assertEqual(taken_out(3, sort, 0), ("either", ONE, ("bag", 1)))
        self.assertEqual(taken_out(3, sort, 1), ("either", ("subset", 2), ("either", EMPTY, ("bag", 0))))
        sort = ("pair", ("bag", 2), ("bag", 2))
        self.assertEqual(taken_out(3, sort, 2),
                         ("either", ("pair", ("bag", 2), ("bag", 0)), ("either", ("pair", ("bag", 1), ("bag", 1)),
                                                                      ("pair", ("bag", 0), ("bag", 2)))))

    def test_all_sorts_against_the_document(self):
        for many, sort in ALL:
            for marks in range(14):
                told = reference_taken.T(many, sort, marks)
                if is_sort(many - 1, told):
                    self.assertEqual(taken_out(many, sort, marks), told, (many, sort, marks))
                else:
                    with self.assertRaises(TooGreat):
                        taken_out(many, sort, marks)

    def test_last_marks(self):
        for many, sort in ALL:
            found = last_marks(many, sort)
            self.assertIsInstance(found, list)
            told = [marks for marks in range(25) if reference_taken.T(many, sort, marks) != NONE]
            self.assertEqual(found, told, (many, sort))
        self.assertEqual(last_marks(5, ("list", 12, ONE)), list(range(13)))
        self.assertEqual(last_marks(3, ("list", 6, ("list", 2, ONE))), list(range(13)))
        self.assertEqual(last_marks(5, ("list", 12, ("either", ONE, EMPTY))), list(range(13)))
        self.assertEqual(last_marks(3, GREATEST), [0])
        for many, sort in GREAT:
            shares = {content[-1] for content, _ in counts(many, sort)}
            self.assertLessEqual(shares, set(last_marks(many, sort)))

    def test_a_list_of_none_of_a_part_with_too_many_marks(self):
        part = ("list", 12, ("bag", 4))
        self.assertEqual(last_marks(3, ("list", 0, part)), [0])
        self.assertEqual(taken_out(3, ("list", 0, part), 0), ("list", 0, part))
        self.assertEqual(taken_out(5, ("list", 0, ("rounds", 2)), 0),
                         ("list", 0, ("pair", ("rounds", 2), ("family", 8, PAIR_OF_ONES))))
        self.assertEqual(taken_apart(3, ("pair", ONE, ("list", 0, part)), (2, ())), (1, ((), ())))

    def test_many_ways_are_told_at_once(self):
        # Written out the sort of 6 marks would have many thousands of parts.
        sort = ("list", 2, ("list", 3, ("list", 2, ("either", ONE, EMPTY))))
        self.assert_error(TooGreat(10), taken_out, 3, sort, 6)
        self.assertEqual(last_marks(3, sort), list(range(13)))


class BoundsTest(RaisingTest):
    def test_too_deep(self):
        self.assertTrue(is_sort(2, taken_out(3, ("list", 8, ONE), 8)))
        for marks in range(1, 10):
            self.assert_error(TooGreat(10), taken_out, 3, ("list", 9, ONE), marks)
            self.assert_error(TooGreat(10), put_back, 3, ("list", 9, ONE), marks, None)
        self.assertEqual(taken_out(3, ("list", 9, ONE), 0), ("list", 9, ONE))
        self.assertEqual(taken_out(3, ("list", 9, ONE), 10), NONE)
        self.assert_error(TooGreat(10), taken_apart, 3, ("list", 9, ONE), (0,) * 8 + (2,))
        self.assertEqual(taken_apart(3, ("list", 9, ONE), (0, 1) * 4 + (0,)), (0, (0, 1) * 4 + (0,)))
        self.assert_error(TooGreat(10), counted_out, 3, ("list", 9, ONE), (4, 4, 1))
        self.assertEqual(counted_out(3, ("list", 9, ONE), (4, 5, 0)), 126)

    def test_too_many_parts(self):
        sort = ("list", 2, ("pair", ONE, ("heap", 2, ONE)))
        found = [marks for marks in range(8) if not fits(3, sort, marks)]
        self.assertEqual(found, [2, 3, 4, 5])
        for marks in found:
            self.assert_error(TooGreat(60), taken_out, 3, sort, marks)
            self.assert_error(TooGreat(60), put_back, 3, sort, marks, None)
        self.assert_error(TooGreat(60), taken_apart, 3, sort, ((2, (0, 2)), (1, (1, 1))))
        self.assert_error(TooGreat(60), counted_out, 3, sort, (2, 2, 2))

    def test_too_wide(self):
        sort = ("pair", ("list", 4, ("rounds", 1)), ("list", 12, ("list", 3, EMPTY)))
        self.assert_error(TooGreat(40), taken_out, 3, sort, 0)
        self.assert_error(TooGreat(40), counted_out, 3, sort, (6, 6, 0))
        lost = ((0,), (0,), (1,))
        self.assert_error(TooGreat(40), taken_apart, 3, sort, ((lost,) * 4, (((),) * 3,) * 12))

    def test_a_sort_farther_on_is_too_great(self):
        sort = ("list", 8, ONE)
        taken_out(4, sort, 1)
        self.assert_error(TooGreat(10), counted_out, 4, sort, (3, 3, 1, 1))
        self.assertEqual(counted_out(4, sort, (3, 4, 1, 0)), count_at(4, sort, (3, 4, 1, 0)))
        self.assertEqual(counted_out(4, sort, (3, 5, 0, 0)), 56)
        # Nothing is left of a content with too many marks of the last name, and nothing is too great.
        self.assertEqual(counted_out(4, sort, (0, 0, 1, 24)), 0)

    def test_a_member_is_refused_ahead_of_its_sort(self):
        self.assert_error(BadMember((2,) * 10), taken_apart, 3, ("list", 9, ONE), (2,) * 10)


class MembersTest(RaisingTest):
    def test_examples(self):
        self.assertEqual(taken_apart(3, ("list", 2, ONE), (2, 0)), (1, (((0, ()),), (0,))))
        self.assertEqual(taken_apart(3, ("list", 2, ONE), (1, 2)), (1, (((1, ()),), (1,))))
        self.assertEqual(taken_apart(4, ("family", 2, ("subset", 2)), ((0, 3), (1, 2))), (1, (((1, 2),), ((0,),))))

    def test_each_line_of_the_table(self):
        sum_of_three = ("either", ("subset", 3), ("either", ONE, ("either", NONE, ("bag", 1))))
        told = (
            (3, ONE, 1, (0, 1)),
            (3, ONE, 2, (1, ())),
            (3, ("subset", 2), (0, 1), (0, (0, 1))),
            (3, ("subset", 2), (0, 2), (1, (0,))),
            (3, ("bag", 3), (0, 2, 2), (2, (0,))),
            (3, ("either", ONE, ("subset", 3)), (0, 1), (0, 1)),
            (3, ("either", ONE, ("subset", 3)), (0, 2), (1, (0, ()))),
            (3, ("either", ONE, ("subset", 3)), (1, (0, 1, 2)), (1, (1, (0, 1)))),
            (3, sum_of_three, (0, (0, 1, 2)), (1, (0, (0, 1)))),
            (3, sum_of_three, (1, (0, 2)), (1, (1, (0, ())))),
            (3, sum_of_three, (1, (1, (1, (2,)))), (1, (1, (1, ())))),
            (3, sum_of_three, (1, (1, (1, (0,)))), (0, (1, (0,)))),
            (3, ("pair", ONE, ONE), (0, 1), (0, (0, 1))),
            (3, ("pair", ONE, ONE), (0, 2), (1, (0, (0, ())))),
            (3, ("pair", ONE, ONE), (2, 0), (1, (1, ((), 0)))),
            (3, ("pair", ONE, ONE), (2, 2), (2, ((), ()))),
            (3, ("list", 0, ONE), (), (0, ())),
            (3, ("list", 2, ONE), (0, 1), (0, (0, 1))),
            (3, ("list", 1, ONE), (2,), (1, (((),), ()))),
            (3, ("list", 3, ONE), (2, 1, 2), (2, (((0, ()), (1, (1, ()))), (1,)))),
            (3, ("list", 3, ONE), (1, 2, 0), (1, (((1, (0, ())),), (1, 0)))),
            (3, ("list", 2, ("bag", 2)), ((0, 0), (0, 1)), (0, ((0, 0), (0, 1)))),
            (3, ("list", 2, ("bag", 1)), ((0,), (2,)), (1, (0, ((0,), ((), ()))))),
            (3, ("list", 2, ("bag", 1)), ((2,), (0,)), (1, (1, ((), ((0,),))))),
            (3, ("family", 2, ONE), (0, 1), (0, ((0, 1), ()))),
            (3, ("family", 2, ONE), (0, 2), (1, ((0,), ((),)))),
            (3, ("heap", 3, ONE), (1, 2, 2), (2, ((1,), ((), ())))),
            (3, ("heap", 3, ("subset", 2)), ((0, 1), (0, 2), (1, 2)), (2, (((0, 1),), ((0,), (1,))))),
            (3, ("rounds", 1), ((1,), (0,), (2,)), (1, (((1,),), (0,)))),
            (3, ("rounds", 1), ((1,), (2,), (2,)), (2, (((1,),), ()))),
            (3, ("rounds", 2), ((0, 1), (2, 0), (1, 1)), (1, (((0, 1),), ((0, 1), (1, 0), (1, 1))))),
            (4, ("trees",), ((0, 3), (1, 3), (2, 3)),
             (3, ((0, 1, 2), (((0, ()), (1, ())), ())))),
            (3, ("trees",), ((0, 1), (0, 2)), (1, ((0, 1), (0,)))),
            (3, ("rooted",), (0, ((0, 1), (1, 2))), (0, (1, 0))),
            (3, ("rooted",), (2, ((0, 1), (1, 2))), (1, (((1, ()),), (1,)))),
        )
        for many, sort, member, found in told:
            self.assertEqual(taken_apart(many, sort, member), found, (many, sort, member))
            self.assertEqual(put_back(many, sort, found[0], found[1]), member, (many, sort, found))

    def test_all_members(self):
        for many, sort in FEW:
            rests = {}
            for member in reference.all_members(many, sort):
                content = reference.content(many, sort, member)
                if not fits(many, sort, content[-1]):
                    self.assertRaises(TooGreat, taken_apart, many, sort, member)
                    continue
                found = taken_apart(many, sort, member)
                self.assertEqual(found, (content[-1], reference_taken.rest(many, sort, member)))
                marks, rest = found
                rests.setdefault(marks, []).append(rest)
                told = reference_taken.T(many, sort, marks)
                self.assertEqual(reference.content(many - 1, told, rest), content[:-1])
                self.assertEqual(put_back(many, sort, marks, rest), member)
            for marks in last_marks(many, sort):
                told = reference_taken.T(many, sort, marks)
                if fits(many, sort, marks):
                    self.assertEqual(sorted(rests.get(marks, [])), reference.all_members(many - 1, told))

    def test_members_of_great_sorts(self):
        for many, sort in GREAT:
            total = how_many(many, sort)
            for index in (0, 1, total // 3, total // 2, total - 1):
                member = member_at(many, sort, index)
                try:
                    marks, rest = taken_apart(many, sort, member)
                except TooGreat:
                    continue
                self.assertEqual(rest, reference_taken.rest(many, sort, member))
                self.assertEqual(marks, content_of(many, sort, member)[-1])
                self.assertEqual(put_back(many, sort, marks, rest), member)

    def test_facts_on_readings(self):
        for many, sort in FEW:
            rows = [part for _, part in parts(many, sort) if part[0] in ("family", "heap")]
            if any(inner[0] == "either" for row in rows for _, inner in reference_parts(row)):
                continue
            for member in reference.all_members(many, sort)[::3]:
                if not fits(many, sort, reference.content(many, sort, member)[-1]):
                    continue
                marks, rest = taken_apart(many, sort, member)
                told = taken_out(many, sort, marks)
                for one, other in combinations(range(many - 1), 2):
                    self.assertEqual(reading(many, sort, member, one, other),
                                     reading(many - 1, told, rest, one, other))
                    self.assertEqual(taken_apart(many, sort, exchange(many, sort, member, one, other)),
                                     (marks, exchange(many - 1, told, rest, one, other)))
                led = [(giver, taker, taken_apart(many, sort, other))
                       for giver, taker, other in transfers(many, sort, member) if many - 1 not in (giver, taker)]
                self.assertEqual(led, [(giver, taker, (marks, other))
                                       for giver, taker, other in transfers(many - 1, told, rest)])


def reference_parts(sort):
    """Return the list of tuples ((), part) of all parts of a sort."""
    found = [((), sort)]
    for part in sort[1:]:
        if isinstance(part, tuple):
            found += reference_parts(part)
    return found


class CountedTest(RaisingTest):
    def test_against_count_at(self):
        for many, sort in FEW:
            told = counts(many, sort)
            others = [(0,) * many, (24,) * many, (12,) + (0,) * (many - 1), (0,) * (many - 1) + (24,)]
            for content in [content for content, _ in told[::3]] + others:
                try:
                    found = counted_out(many, sort, content)
                except TooGreat:
                    left = sort
                    with self.assertRaises(TooGreat):
                        for names in range(many, 2, -1):
                            left = taken_out(names, left, content[names - 1])
                    continue
                self.assertEqual(found, count_at(many, sort, content), (many, sort, content))

    def test_the_members_of_all_sorts_taken_out_are_those_of_the_sort(self):
        for many, sort in ALL:
            found = last_marks(many, sort)
            if all(fits(many, sort, marks) for marks in found):
                total = sum(how_many(many - 1, taken_out(many, sort, marks)) for marks in found)
                self.assertEqual(total, how_many(many, sort), (many, sort))

    def test_many_members(self):
        sort = ("list", 6, ("bag", 2))
        self.assertGreater(how_many(5, sort), 10 ** 7)
        self.assertEqual(counted_out(5, sort, (7, 5, 0, 0, 0)), count_at(5, sort, (7, 5, 0, 0, 0)))
        great = ("pair", ("list", 10, TEN), ("bag", 4))
        self.assertEqual(counted_out(4, great, (1, 1, 1, 1)), 10 ** 10)
        self.assertEqual(how_many(4, taken_out(5, ("list", 12, PAIR_OF_ONES), 0)), 8 ** 12)

    def test_examples(self):
        self.assertEqual(counted_out(4, ("family", 2, ("subset", 2)), (1, 1, 1, 1)), 3)
        self.assertEqual(counted_out(3, ("list", 3, ONE), (1, 1, 1)), 6)


class ErrorsTest(RaisingTest):
    CALLS = ((taken_out, (None,)), (last_marks, ()), (taken_apart, (None,)), (put_back, (None, None)),
             (counted_out, (None,)))

    def test_the_sorts_errors_go_ahead(self):
        for call, others in self.CALLS:
            for many in (0, 1, 2, 6, True, None, "3", 3.0):
                self.assert_error(BadMany(many), call, many, 5, *others)
                self.assert_error(BadMany(many), call, many, ONE, *others)
            self.assert_error(BadSort(()), call, 3, 5, *others)
            self.assert_error(BadSort((1,)), call, 3, ("pair", 5, ONE), *others)
            self.assert_error(TooGreat(10), call, 3, deep(11), *others)
            self.assert_error(TooGreat(10 ** 30), call, 3, TOO_MANY, *others)

    def test_wrong_marks(self):
        for value in (-1, 25, True, False, None, "0", 0.0, (0,)):
            self.assert_error(BadTotal(value), taken_out, 3, ("list", 9, ONE), value)
            self.assert_error(BadTotal(value), put_back, 3, ("list", 9, ONE), value, None)
        self.assertEqual(taken_out(3, ("list", 9, ONE), 24), NONE)

    def test_wrong_members(self):
        for value in (3, -1, True, (0,), None, "a", [0]):
            self.assert_error(BadMember(value), taken_apart, 3, ONE, value)
        for value in (2, True, (), None, [0]):
            self.assert_error(BadMember(value), put_back, 3, ONE, 0, value)
        for value in (0, ((),), None, []):
            self.assert_error(BadMember(value), put_back, 3, ONE, 1, value)
        for value in (0, (), None):
            self.assert_error(BadMember(value), put_back, 3, ONE, 2, value)
            self.assert_error(BadMember(value), put_back, 3, NONE, 0, value)
        self.assert_error(BadMember((((0, ()),), (2,))), put_back, 3, ("list", 2, ONE), 1, (((0, ()),), (2,)))

    def test_wrong_contents(self):
        for value in ((), (0, 0), (0, 0, 25), (0, 0, True), [0, 0, 0], *ODD_VALUES):
            self.assert_error(BadContent(value), counted_out, 3, ("list", 9, ONE), value)

    def test_a_changed_list_changes_nothing_else(self):
        last_marks(3, ("trees",)).clear()
        self.assertEqual(last_marks(3, ("trees",)), [1, 2])

    def test_all_rests_are_told(self):
        # Every member of T over one name less is put back somewhere else.
        for many, sort in ((3, ("list", 3, ONE)), (4, ("heap", 2, TWO_KINDS)), (4, ("rounds", 1))):
            found = []
            for marks in last_marks(many, sort):
                told = taken_out(many, sort, marks)
                found += [put_back(many, sort, marks, rest) for rest in members(many - 1, told)]
            self.assertEqual(sorted(found), members(many, sort))
            self.assertEqual(len(set(found)), len(found))

    def test_other_names_stay(self):
        for one, other in permutations(range(2), 2):
            self.assertEqual(taken_apart(3, ("pair", ONE, ONE), (one, other)), (0, (one, other)))


if __name__ == "__main__":
    unittest.main()
