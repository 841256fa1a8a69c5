"""Counts of contents: promises [28] to [32]."""

from collections import Counter
from itertools import permutations, product
from math import comb, factorial

from unithouse.counts import count_at, counts, greatest_count, growth, most_even, splits, totals
from unithouse.errors import BadContent, BadMany, BadName, BadSort, BadTotal, NoFree, SameName, TooGreat
from unithouse.readings import can_transfer
from unithouse.sorts import how_many

from tests import reference
from tests.raising import RaisingTest
from tests.reference_heads import counts_by_strings, multinomial
from tests.samples import EMPTY, GREAT, GREATEST, NONE, ODD_VALUES, ONE, SMALL, TEN, TOO_MANY, TWO_KINDS, deep

LIST = ("list", 3, ONE)
WRONG_CONTENTS = ((), (0, 0), (0, 0, 0, 0), (0, 0, 25), (0, 0, -1), (0, 0, True), (0, 0, 0.0), [0, 0, 0], *ODD_VALUES)
WRONG_NAMES = (-1, 3, True, False, None, "a", 0.0, (0,))


def contents_of(many, sort):
    """Return the list of the contents of all members of a sort that has few."""
    return [reference.content(many, sort, member) for member in reference.all_members(many, sort)]


class CountsTest(RaisingTest):
    def test_examples(self):
        self.assertEqual(counts(2, ("bag", 2)), [((0, 2), 1), ((1, 1), 1), ((2, 0), 1)])
        self.assertEqual(count_at(4, ("family", 2, ("subset", 2)), (1, 1, 1, 1)), 3)
        self.assertEqual(totals(2, ("either", ONE, ("bag", 2))), [(1, 2), (2, 3)])

    def test_of_each_word_against_the_members(self):
        for many, sort in SMALL:
            found = sorted(Counter(contents_of(many, sort)).items())
            self.assertEqual(counts(many, sort), found, (many, sort))
            self.assertIsInstance(counts(many, sort), list)
            sums = Counter(sum(content) for content in contents_of(many, sort))
            self.assertEqual(totals(many, sort), sorted(sums.items()))
            for content, count in found:
                self.assertEqual(count_at(many, sort, content), count)

    def test_a_content_that_no_member_has(self):
        for many, sort in SMALL:
            self.assertEqual(count_at(many, sort, (24,) * many), 0)
            self.assertEqual(count_at(many, sort, (24,) + (0,) * (many - 1)), 0)
        self.assertEqual(count_at(3, LIST, (0, 0, 0)), 0)
        self.assertEqual(count_at(3, ("list", 0, NONE), (0, 0, 0)), 1)
        self.assertEqual(count_at(3, ("rounds", 1), (1, 1, 0)), 0)
        self.assertEqual(count_at(3, ("trees",), (2, 2, 0)), 0)

    def test_no_members(self):
        for sort in (NONE, ("subset", 4), ("pair", NONE, ONE), ("list", 2, NONE), ("family", 2, NONE),
                     ("heap", 1, NONE), ("family", 4, ONE), ("pair", ("bag", 12), NONE)):
            self.assertEqual(counts(3, sort), [])
            self.assertEqual(totals(3, sort), [])
            self.assertEqual(count_at(3, sort, (0, 0, 0)), 0)
            self.assertEqual(greatest_count(3, sort, 0), 0)

    def test_one_member(self):
        for sort in (EMPTY, ("bag", 0), ("list", 0, NONE), ("family", 0, ONE), ("heap", 0, GREATEST[2][2]),
                     ("heap", 4, EMPTY), ("list", 12, EMPTY)):
            self.assertEqual(counts(3, sort), [((0, 0, 0), 1)])
            self.assertEqual(totals(3, sort), [(0, 1)])
        self.assertEqual(counts(3, ("subset", 3)), [((1, 1, 1), 1)])
        self.assertEqual(counts(2, ("trees",)), [((1, 1), 1)])

    def test_a_list_of_none_of_a_part_with_too_many_marks(self):
        for part in (("list", 12, ("list", 12, ("subset", 3))), ("list", 12, ("bag", 4)), ("pair", LIST, ("bag", 12))):
            for word in ("list", "pair"):
                none = ("list", 0, part)
                sort = ("list", 1, none) if word == "list" else ("pair", none, ONE)
                found = [((0, 0, 0), 1)] if word == "list" else counts(3, ONE)
                self.assertEqual(counts(3, sort), found)

    def test_many_members_by_hand(self):
        found = counts(5, ("list", 12, ONE))
        self.assertEqual(len(found), comb(16, 4))
        for content, count in found:
            self.assertEqual(sum(content), 12)
            self.assertEqual(count, multinomial(content))
        self.assertEqual(counts(5, ("list", 12, ("either", ONE, ONE))),
                         [(content, count * 2 ** 12) for content, count in found])
        self.assertEqual(counts(5, ("bag", 12)), [(content, 1) for content, _ in found])
        self.assertEqual(counts(3, GREATEST), [((0, 0, 0), 10 ** 30)])
        self.assertEqual(count_at(3, ("pair", ("list", 10, TEN), LIST), (1, 1, 1)), 6 * 10 ** 10)

    def test_many_members_against_the_strings(self):
        for many, sort in GREAT:
            found = counts(many, sort)
            self.assertEqual(found, sorted(counts_by_strings(many, sort, 0, many - 1).items()), (many, sort))
            self.assertEqual(sum(count for _, count in found), how_many(many, sort))
            self.assertEqual(sum(count for _, count in totals(many, sort)), how_many(many, sort))

    def test_trees_and_rooted_by_factorials(self):
        for many in range(2, 6):
            for content in product(range(many), repeat=many):
                rooted = trees = 0
                if sum(content) == many - 1:
                    rooted = factorial(many - 1)
                    for number in content:
                        rooted //= factorial(number)
                if sum(content) == 2 * (many - 1) and 0 not in content:
                    trees = factorial(many - 2)
                    for number in content:
                        trees //= factorial(number - 1)
                self.assertEqual(count_at(many, ("rooted",), content), rooted)
                self.assertEqual(count_at(many, ("trees",), content), trees)

    def test_another_order_of_a_content_has_the_same_count(self):
        for many, sort in SMALL:
            told = dict(counts(many, sort))
            for content, count in told.items():
                for other in permutations(content):
                    self.assertEqual(told[other], count)

    def test_a_changed_list_changes_nothing_else(self):
        for call in (counts, totals):
            found = call(3, LIST)
            call(3, LIST).clear()
            self.assertEqual(call(3, LIST), found)

    def test_wrong_contents(self):
        for value in WRONG_CONTENTS:
            self.assert_error(BadContent(value), count_at, 3, LIST, value)

    def test_the_sorts_errors_go_ahead(self):
        for many, sort, error in ((1, 5, BadMany(1)), (True, ONE, BadMany(True)), (6, ONE, BadMany(6)),
                                  (3, 5, BadSort(())), (3, ("bag", 13), BadSort(())),
                                  (3, ("list", 2, ("bag", 12)), TooGreat(12)), (3, deep(11), TooGreat(10)),
                                  (3, TOO_MANY, TooGreat(10 ** 30))):
            self.assert_error(error, counts, many, sort)
            self.assert_error(error, totals, many, sort)
            self.assert_error(error, count_at, many, sort, None)
            self.assert_error(error, splits, many, sort, None, None, None)
            self.assert_error(error, growth, many, sort, None, None, None)
            self.assert_error(error, greatest_count, many, sort, None)


class TwoNamesTest(RaisingTest):
    def test_examples(self):
        self.assertEqual(splits(3, LIST, (2, 1, 0), 0, 1), [1, 3, 3, 1])
        self.assertEqual(growth(3, LIST, (3, 0, 0), 0, 1), (1, 0, 2, 3))
        self.assertEqual(growth(3, LIST, (1, 2, 0), 0, 1), (3, 2, 0, 1))

    def test_splits_of_small_sorts(self):
        for many, sort in SMALL:
            told = dict(counts(many, sort))
            for content in told:
                for first, second in permutations(range(many), 2):
                    found = splits(many, sort, content, first, second)
                    self.assertIsInstance(found, list)
                    self.assertEqual(len(found), content[first] + content[second] + 1)
                    for marks, count in enumerate(found):
                        split = list(content)
                        split[first], split[second] = marks, len(found) - 1 - marks
                        self.assertEqual(count, told.get(tuple(split), 0))
                    self.assertEqual(found, found[::-1])
                    half = found[:(len(found) + 1) // 2]
                    self.assertEqual(half, sorted(half))

    def test_splits_of_contents_that_no_member_has(self):
        self.assertEqual(splits(3, LIST, (0, 0, 0), 0, 1), [0])
        self.assertEqual(splits(3, LIST, (0, 0, 3), 1, 0), [1])
        self.assertEqual(splits(2, LIST, (24, 24), 0, 1), [0] * 49)
        self.assertEqual(splits(2, LIST, (24, 0), 1, 0), [0] * 25)
        self.assertEqual(splits(3, NONE, (1, 2, 24), 1, 0), [0] * 4)

    def test_splits_of_many_members(self):
        self.assertEqual(splits(5, ("list", 12, ONE), (0, 12, 0, 0, 0), 1, 3), [comb(12, at) for at in range(13)])
        for many, sort in GREAT:
            content = counts(many, sort)[-1][0]
            found = splits(many, sort, content, 0, many - 1)
            self.assertEqual(found, found[::-1])
            half = found[:(len(found) + 1) // 2]
            self.assertEqual(half, sorted(half))

    def test_growth_against_the_members(self):
        for many, sort in SMALL:
            if how_many(many, sort) > 200:
                continue
            by_content = {}
            for member in reference.all_members(many, sort):
                by_content.setdefault(reference.content(many, sort, member), []).append(member)
            for content in list(by_content):
                for giver, taker in permutations(range(many), 2):
                    if content[giver] == 0:
                        continue
                    behind = tuple(number + (name == taker) - (name == giver) for name, number in enumerate(content))
                    ends = [member for member in by_content[content]
                            if not can_transfer(many, sort, member, giver, taker)]
                    heads = [member for member in by_content.get(behind, [])
                             if not can_transfer(many, sort, member, taker, giver)]
                    wanted = (len(by_content[content]), len(ends), len(heads), len(by_content.get(behind, [])))
                    self.assertEqual(growth(many, sort, content, giver, taker), wanted)

    def test_growth_towards_a_content_that_members_have(self):
        # No member has the content here, but some have the one behind.
        self.assertEqual(growth(3, ("subset", 2), (2, 0, 0), 0, 1), (0, 0, 1, 1))
        self.assertEqual(growth(3, ("subset", 2), (2, 0, 0), 0, 2), (0, 0, 1, 1))
        self.assertEqual(growth(3, ("subset", 2), (0, 1, 1), 1, 2), (1, 1, 0, 0))

    def test_growth_of_equal_numbers(self):
        self.assertEqual(growth(2, ("list", 2, ONE), (1, 1), 0, 1), (2, 1, 0, 1))
        self.assertEqual(growth(2, ("bag", 2), (1, 1), 1, 0), (1, 0, 0, 1))

    def test_growth_at_the_greatest_numbers(self):
        self.assertEqual(growth(2, LIST, (24, 24), 0, 1), (0, 0, 0, 0))
        self.assertEqual(growth(2, LIST, (1, 24), 0, 1), (0, 0, 0, 0))

    def test_growth_of_many_members(self):
        self.assertEqual(growth(5, ("list", 12, ("either", ONE, ONE)), (12, 0, 0, 0, 0), 0, 4),
                         (2 ** 12, 0, 11 * 2 ** 12, 12 * 2 ** 12))
        for many, sort in GREAT:
            told = counts(many, sort)
            for content, _ in told[::len(told) // 5 + 1]:
                for giver, taker in ((0, 1), (many - 1, 0), (1, many - 1)):
                    if content[giver] > 0:
                        here, ends, heads, behind = growth(many, sort, content, giver, taker)
                        self.assertEqual(here - ends, behind - heads)
                        self.assertEqual(0, ends if content[giver] > content[taker] else heads)

    def test_errors_in_their_order(self):
        for call in (splits, growth):
            for value in WRONG_CONTENTS:
                self.assert_error(BadContent(value), call, 3, LIST, value, 7, 7)
            for value in WRONG_NAMES:
                self.assert_error(BadName(value), call, 3, LIST, (0, 0, 0), value, 7)
                self.assert_error(BadName(value), call, 3, LIST, (0, 0, 0), 0, value)
            self.assert_error(SameName(1), call, 3, LIST, (0, 0, 0), 1, 1)
        self.assert_error(NoFree(2, 0), growth, 3, LIST, (3, 0, 0), 2, 0)
        self.assert_error(NoFree(0, 1), growth, 2, LIST, (0, 24), 0, 1)
        self.assert_error(NoFree(1, 0), growth, 3, NONE, (0, 0, 0), 1, 0)

    def test_a_changed_list_changes_nothing_else(self):
        splits(3, LIST, (2, 1, 0), 0, 1).append(5)
        self.assertEqual(splits(3, LIST, (2, 1, 0), 0, 1), [1, 3, 3, 1])


class MostEvenTest(RaisingTest):
    def test_examples(self):
        self.assertEqual(most_even(4, 6), (2, 2, 1, 1))
        self.assertEqual(most_even(3, 0), (0, 0, 0))
        self.assertEqual(most_even(3, 72), (24, 24, 24))
        self.assertEqual(most_even(3, 71), (24, 24, 23))
        self.assertEqual(most_even(5, 1), (1, 0, 0, 0, 0))

    def test_all_totals(self):
        for many in range(2, 6):
            for total in range(24 * many + 1):
                content = most_even(many, total)
                self.assertEqual(sum(content), total)
                self.assertEqual(len(content), many)
                self.assertLessEqual(max(content) - min(content), 1)
                self.assertEqual(list(content), sorted(content, reverse=True))

    def test_greatest_count_of_small_sorts(self):
        for many, sort in SMALL:
            told = Counter(contents_of(many, sort))
            for total in (*range(14), 24 * many):
                found = [count for content, count in told.items() if sum(content) == total]
                self.assertEqual(greatest_count(many, sort, total), max(found, default=0), (many, sort, total))

    def test_greatest_count_of_many_members(self):
        for many, sort in GREAT:
            told = counts(many, sort)
            for total in range(13):
                found = [count for content, count in told if sum(content) == total]
                self.assertEqual(greatest_count(many, sort, total), max(found, default=0))
        self.assertEqual(greatest_count(3, GREATEST, 0), 10 ** 30)

    def test_wrong_totals(self):
        for value in (-1, 73, True, False, None, "0", 0.0, (0,)):
            self.assert_error(BadTotal(value), most_even, 3, value)
            self.assert_error(BadTotal(value), greatest_count, 3, TWO_KINDS, value)
        self.assert_error(BadTotal(49), most_even, 2, 49)
        self.assert_error(BadMany(1), most_even, 1, None)
        self.assert_error(BadMany(False), most_even, False, 0)
