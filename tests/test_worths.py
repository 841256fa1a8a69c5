"""Sums at worths: promises [53] to [63]."""

from itertools import combinations, permutations, product
from math import comb, prod

from unithouse.alike import are_alike
from unithouse.counts import counts, totals
from unithouse.errors import BadContent, BadMany, BadName, BadSort, BadTotal, BadWorths, SameName, TooGreat
from unithouse.evenness import is_evener
from unithouse.heads import heads
from unithouse.sorts import how_many, marks
from unithouse.strings import heads_listed
from unithouse.worths import (content_terms, even_sum, flat_sort, head_sum, is_parting, need_worths, parting_worths,
                              product_at, string_terms, sum_at, sums_by_total, telling_worths, transfer_terms)
from unithouse import worths as worths_file

from tests import reference
from tests.raising import RaisingTest
from tests.samples import GREAT, GREATEST, NONE, ODD_VALUES, ONE, SMALL, TEN, deep

LIST = ("list", 3, ONE)

# Below 0, 0, equal, the greatest.
WORTHS = {
    2: ((3, 2), (0, 0), (-1, 5), (0, -3), (1, 1), (100, -100)),
    3: ((3, 2, 5), (0, 0, 0), (0, 1, 0), (-1, 5, 2), (-2, -3, -5), (1, 1, 1), (100, -100, 0)),
    4: ((3, 2, 5, 7), (0, 0, 0, 1), (-1, 5, 2, 0), (-2, -3, -5, -7), (1, 1, 1, 1)),
    5: ((3, 2, 5, 7, 11), (0, 0, 0, 0, 1), (-1, 5, 2, 0, 3), (1, 1, 1, 1, 1)),
}
NO_WORTHS = (*ODD_VALUES, (1, 2), (1, 2, 3, 4), (1, 2, 101), (-101, 0, 0), (1, True, 0), (1, 2, 1.0), [1, 2, 3],
             (1, 2, "3"), (1, (2,), 3), (10 ** 40, 0, 0))
NO_TOTALS = (*ODD_VALUES, -1, 13, 10 ** 20, (1,))


def product_by_hand(content, worths):
    return prod(worth ** number for number, worth in zip(content, worths))


def contents_of(many, sort):
    """Return the list of the contents of all members."""
    return [reference.content(many, sort, member) for member in reference.all_members(many, sort)]


def rows(many, most):
    return list(product(range(most + 1), repeat=many))


class ProductTest(RaisingTest):
    def test_need_worths(self):
        for many, found in WORTHS.items():
            for worths in found:
                self.assertIs(need_worths(many, worths), worths)
        for value in NO_WORTHS:
            self.assert_error(BadWorths(value), need_worths, 3, value)
        for many in (1, 6, True, None):
            self.assert_error(BadMany(many), need_worths, many, None)

    def test_product(self):
        self.assertEqual(product_at(3, (0, 0, 0), (0, 0, 0)), 1)
        self.assertEqual(product_at(3, (1, 0, 2), (2, 0, -3)), 18)
        self.assertEqual(product_at(3, (1, 0, 1), (2, 0, -3)), -6)
        self.assertEqual(product_at(3, (0, 1, 0), (5, 0, 5)), 0)
        self.assertEqual(product_at(5, (24,) * 5, (100,) * 5), 100 ** 120)
        self.assertEqual(product_at(2, (23, 0), (-100, 7)), -100 ** 23)
        for many, found in WORTHS.items():
            for content in rows(many, 2):
                for worths in found:
                    self.assertEqual(product_at(many, content, worths), product_by_hand(content, worths))

    def test_even_sum(self):
        self.assertEqual(even_sum(3, (3, 0, 0), (1, 1, 1)), 6)
        self.assertEqual(even_sum(3, (3, 0, 0), (1, 1, 1), unlike=True), 3)
        self.assertEqual(even_sum(3, (3, 0, 0), (1, 1, 1), unlike=False), 6)
        self.assertEqual(even_sum(5, (0,) * 5, (0,) * 5), 120)
        self.assertEqual(even_sum(5, (0,) * 5, (0,) * 5, unlike=True), 1)
        for many, found in WORTHS.items():
            for content in rows(many, 2)[::many - 1]:
                for worths in found[:4]:
                    orders = list(permutations(content))
                    self.assertEqual(even_sum(many, content, worths),
                                     sum(product_by_hand(one, worths) for one in orders))
                    self.assertEqual(even_sum(many, content, worths, unlike=True),
                                     sum(product_by_hand(one, worths) for one in set(orders)))

    def test_errors_in_their_order(self):
        for call in (product_at, even_sum):
            self.assert_error(BadMany(1), call, 1, None, None)
            for value in ((), (0, 0), (0, 0, 25), (0, 0, -1), [0, 0, 0], (0, 0, True), *ODD_VALUES):
                self.assert_error(BadContent(value), call, 3, value, None)
            for value in NO_WORTHS:
                self.assert_error(BadWorths(value), call, 3, (0, 0, 24), value)


class SumsTest(RaisingTest):
    def test_example(self):
        self.assertEqual(sum_at(2, ("family", 2, ("either", ONE, ONE)), (3, 2)), 37)

    def test_small_sorts(self):
        for many, sort in SMALL:
            contents = contents_of(many, sort)
            for worths in WORTHS[many]:
                sums = [0] * (marks(many, sort) + 1)
                for content in contents:
                    sums[sum(content)] += product_by_hand(content, worths)
                self.assertEqual(sums_by_total(many, sort, worths), sums)
                self.assertEqual(sum_at(many, sort, worths), sum(sums))

    def test_at_ones_members_are_counted(self):
        for many, sort in GREAT + SMALL:
            sums = sums_by_total(many, sort, (1,) * many)
            self.assertEqual(sum(sums), how_many(many, sort))
            self.assertEqual(len(sums), marks(many, sort) + 1)
            self.assertEqual([(total, number) for total, number in enumerate(sums) if number], totals(many, sort))

    def test_great_sorts(self):
        self.assertEqual(sums_by_total(3, GREATEST, (0, 0, 0)), [10 ** 30])
        self.assertEqual(sum_at(5, ("list", 12, ONE), (100,) * 5), 500 ** 12)
        self.assertEqual(sum_at(5, ("list", 12, ("either", ONE, ONE)), (3, -2, 0, 7, 1)), 18 ** 12)
        self.assertEqual(sum_at(5, ("list", 12, ("either", ONE, ONE)), (-1, 1, -2, 2, 0)), 0)
        self.assertEqual(sums_by_total(5, ("bag", 12), (0, 1, 0, 0, 0)), [0] * 12 + [1])
        self.assertEqual(sum_at(5, ("rounds", 1), (3, 2, 5, 7, 11)),
                         prod(one + other for one, other in combinations((3, 2, 5, 7, 11), 2)))
        self.assertEqual(sum_at(4, ("list", 2, ("trees",)), (3, 2, -5, 7)), (3 * 2 * -5 * 7 * 7 ** 2) ** 2)
        for many, sort in GREAT:
            for worths in WORTHS[many]:
                told = sum(count * product_by_hand(content, worths) for content, count in counts(many, sort))
                self.assertEqual(sum_at(many, sort, worths), told)

    def test_returned_lists_are_new(self):
        for call, passed in ((sums_by_total, (3, LIST, (1, 2, 3))), (content_terms, (3, LIST, (1, 2, 3))),
                             (string_terms, (3, LIST, 0, 1, (1, 2, 3))), (worths_file.test_worths, (3, 2)),
                             (transfer_terms, (3, (2, 0, 0), 0, 1, (1, 2, 3)))):
            found = call(*passed)
            before = list(found)
            found.append(5)
            found[0] = None
            self.assertEqual(call(*passed), before)

    def test_the_ends_of_the_mean(self):
        # The mean of the products lies between that of the flat sort and that of the bag.
        for many, sort in SMALL:
            for worths in WORTHS[many] + ((1, 0, 7, 3, 2)[:many], (9, 4, 1, 1, 1)[:many]):
                if min(worths) < 0:
                    continue
                numbers = dict(totals(many, sort))
                for total, value in enumerate(sums_by_total(many, sort, worths)):
                    if total not in numbers:
                        continue
                    flat, bag = flat_sort(many, total), ("bag", total)
                    self.assertGreaterEqual(value * how_many(many, flat), sum_at(many, flat, worths) * numbers[total])
                    self.assertLessEqual(value * how_many(many, bag), sum_at(many, bag, worths) * numbers[total])

    def test_worths_with_the_same_product(self):
        for many, sort in SMALL:
            rest = (7, 2, 1)[:many - 2]
            found = [sums_by_total(many, sort, pair + rest) for pair in ((4, 4), (2, 8), (16, 1))]
            found += [sums_by_total(many, sort, rest + pair) for pair in ((0, 0), (0, 3), (10, 0))]
            for less, more in zip(found[:2] + found[3:5], found[1:3] + found[4:]):
                self.assertTrue(all(one <= other for one, other in zip(less, more)), sort)

    def test_errors_in_their_order(self):
        for call in (sums_by_total, sum_at, content_terms):
            self.assert_error(BadMany(1), call, 1, 5, None)
            self.assert_error(BadSort((1,)), call, 3, ("either", 5, ONE), None)
            self.assert_error(TooGreat(10), call, 3, deep(11), None)
            for value in NO_WORTHS:
                self.assert_error(BadWorths(value), call, 3, LIST, value)


class TermsTest(RaisingTest):
    def test_by_contents(self):
        for many, sort in SMALL:
            contents = contents_of(many, sort)
            for worths in WORTHS[many]:
                told = []
                for content in sorted(set(contents)):
                    if list(content) == sorted(content, reverse=True):
                        value = sum(product_by_hand(one, worths) for one in set(permutations(content)))
                        told.append((content, contents.count(content), value))
                self.assertEqual(content_terms(many, sort, worths), told)
                self.assertEqual(sum(count * value for _, count, value in told), sum_at(many, sort, worths))

    def test_by_strings(self):
        for many, sort in SMALL:
            for low, high in combinations(range(many), 2):
                for worths in WORTHS[many][:4]:
                    told = {}
                    for head in heads_listed(many, sort, low, high):
                        content = reference.content(many, sort, head)
                        told[content] = told.get(content, 0) + 1
                    told = [(content, told[content], self.string_by_hand(many, content, low, high, worths))
                            for content in sorted(told)]
                    self.assertEqual(string_terms(many, sort, low, high, worths), told)
                    self.assertEqual(string_terms(many, sort, high, low, worths), told)
                    self.assertEqual(sum(count * value for _, count, value in told), sum_at(many, sort, worths))

    def string_by_hand(self, many, content, low, high, worths):
        """Return the value of a string as point 57 tells it."""
        one, other = worths[low], worths[high]
        length, least = content[low] - content[high], content[high]
        rest = prod(worths[name] ** content[name] for name in range(many) if name not in (low, high))
        return rest * (one * other) ** least * sum(one ** (length - at) * other ** at for at in range(length + 1))

    def test_head_sum(self):
        self.assertEqual(head_sum(2, ("list", 2, ONE), 0, 1, (3, 2)), 15)
        self.assertEqual(sum_at(2, ("list", 2, ONE), (3, 2)), 25)
        for many, sort in SMALL + GREAT:
            for low, high in list(combinations(range(many), 2))[::2]:
                for worths in WORTHS[many][:4]:
                    swapped = list(worths)
                    swapped[low], swapped[high] = swapped[high], swapped[low]
                    own = sum(count * product_by_hand(content, worths) for content, count in heads(many, sort, low, high))
                    found = head_sum(many, sort, low, high, worths)
                    self.assertEqual(found, own)
                    self.assertEqual(head_sum(many, sort, high, low, worths), own)
                    one, other = worths[low], worths[high]
                    self.assertEqual((one - other) * sum_at(many, sort, worths),
                                     one * found - other * head_sum(many, sort, low, high, tuple(swapped)))

    def test_great_sorts(self):
        for many, sort in GREAT:
            for worths in WORTHS[many][:3]:
                told = sum_at(many, sort, worths)
                self.assertEqual(sum(count * value for _, count, value in content_terms(many, sort, worths)), told)
                for pair in ((0, 1), (many - 1, 0)):
                    terms = string_terms(many, sort, *pair, worths)
                    self.assertEqual([term[:2] for term in terms], heads(many, sort, *pair))
                    self.assertEqual(sum(count * value for _, count, value in terms), told)

    def test_errors_in_their_order(self):
        for call in (string_terms, head_sum):
            self.assert_error(BadMany(1), call, 1, 5, None, None, None)
            self.assert_error(BadSort(()), call, 3, 5, None, None, None)
            for value in (3, -1, *ODD_VALUES):
                self.assert_error(BadName(value), call, 3, LIST, value, None, None)
                self.assert_error(BadName(value), call, 3, LIST, 0, value, None)
            self.assert_error(SameName(2), call, 3, LIST, 2, 2, None)
            for value in NO_WORTHS:
                self.assert_error(BadWorths(value), call, 3, LIST, 1, 0, value)


class FlatTest(RaisingTest):
    def test_flat_sort(self):
        self.assertEqual(flat_sort(3, 8), ("pair", ("list", 2, ("subset", 3)), ("subset", 2)))
        self.assertEqual(flat_sort(5, 0), ("pair", ("list", 0, ("subset", 5)), ("subset", 0)))
        self.assertEqual(flat_sort(2, 12), ("pair", ("list", 6, ("subset", 2)), ("subset", 0)))
        for many in range(2, 6):
            for total in range(13):
                sort = flat_sort(many, total)
                size, rest = sort[1][1], sort[2][1]
                self.assertEqual(sort, ("pair", ("list", size, ("subset", many)), ("subset", rest)))
                self.assertEqual(size * many + rest, total)
                self.assertLess(rest, many)
                self.assertEqual(how_many(many, sort), comb(many, rest))
                # Each of its contents is as even as can be.
                for content, _ in counts(many, sort):
                    self.assertTrue(all(is_evener(many, content, other) for other, _ in counts(many, ("bag", total))))

    def test_errors_in_their_order(self):
        for call in (flat_sort, worths_file.test_worths):
            self.assert_error(BadMany(6), call, 6, None)
            for value in NO_TOTALS:
                self.assert_error(BadTotal(value), call, 3, value)


class TransferTest(RaisingTest):
    def test_all_small_contents(self):
        for many, most in ((2, 5), (3, 3), (4, 2), (5, 2)):
            for content in rows(many, most)[::1 if many < 4 else 11]:
                for giver, taker in permutations(range(many), 2):
                    if content[giver] <= content[taker]:
                        self.assert_error(BadContent(content), transfer_terms, many, content, giver, taker,
                                          WORTHS[many][0])
                        continue
                    for worths in WORTHS[many][:4] + (tuple(range(many)),):
                        self.check(many, content, giver, taker, worths)

    def check(self, many, content, giver, taker, worths):
        terms = transfer_terms(many, content, giver, taker, worths)
        orders = [order for order in permutations(range(many)) if order[giver] < order[taker]]
        self.assertEqual([order for order, _ in terms], orders)
        behind = list(content)
        behind[giver] -= 1
        behind[taker] += 1
        least, more = content[taker], content[giver] - content[taker] - 1
        for order, term in terms:
            one, other = worths[order[giver]], worths[order[taker]]
            rest = prod(worths[order[name]] ** content[name] for name in range(many) if name not in (giver, taker))
            self.assertEqual(term, rest * (one * other) ** least * (one ** more - other ** more) * (one - other))
            if min(worths) >= 0:
                self.assertGreaterEqual(term, 0)
        self.assertEqual(sum(term for _, term in terms),
                         even_sum(many, content, worths) - even_sum(many, tuple(behind), worths))

    def test_by_hand(self):
        self.assertEqual(transfer_terms(2, (3, 0), 0, 1, (3, 2)), [((0, 1), 5)])
        self.assertEqual(transfer_terms(2, (0, 3), 1, 0, (3, 2)), [((1, 0), 5)])
        self.assertEqual(transfer_terms(2, (1, 0), 0, 1, (3, 2)), [((0, 1), 0)])
        self.assertEqual(transfer_terms(3, (3, 1, 1), 0, 2, (3, 2, 5)),
                         [((0, 1, 2), 2 * 15 * 4), ((0, 2, 1), 5 * 6), ((1, 0, 2), 3 * 10 * 9)])

    def test_errors_in_their_order(self):
        self.assert_error(BadMany(1), transfer_terms, 1, None, None, None, None)
        self.assert_error(BadContent(None), transfer_terms, 3, None, None, None, None)
        self.assert_error(BadName(3), transfer_terms, 3, (0, 0, 0), 3, None, None)
        self.assert_error(BadName(None), transfer_terms, 3, (0, 0, 0), 0, None, None)
        self.assert_error(SameName(1), transfer_terms, 3, (0, 0, 0), 1, 1, None)
        for value in NO_WORTHS:
            self.assert_error(BadWorths(value), transfer_terms, 3, (0, 0, 0), 1, 0, value)
        self.assert_error(BadContent((0, 0, 0)), transfer_terms, 3, (0, 0, 0), 1, 0, (0, 0, 0))
        self.assert_error(BadContent((1, 2, 0)), transfer_terms, 3, (1, 2, 0), 0, 1, (0, 0, 0))


class PartingTest(RaisingTest):
    def test_example(self):
        self.assertEqual(parting_worths(3, (3, 0, 0), (2, 1, 0)), (1, (4, 1, 1)))
        self.assertEqual(even_sum(3, (3, 0, 0), (4, 1, 1)), 132)
        self.assertEqual(even_sum(3, (2, 1, 0), (4, 1, 1)), 42)
        self.assertIs(is_parting(3, (3, 0, 0), (2, 1, 0), (4, 1, 1)), True)
        self.assertIs(is_parting(3, (2, 1, 0), (3, 0, 0), (4, 1, 1)), False)
        self.assertIs(is_parting(3, (2, 1, 0), (0, 2, 1), (4, 1, 1)), False)
        self.assertEqual(parting_worths(5, (3, 3, 0, 0, 0), (4, 1, 1, 0, 0)), (2, (11, 11, 1, 1, 1)))

    def test_all_small_contents(self):
        for many, most in ((2, 6), (3, 3), (4, 2)):
            tests = list(product((0, 1, 2, 5), repeat=many))
            for content, other in product(rows(many, most)[::1 if many < 4 else 5], repeat=2):
                if sum(content) != sum(other):
                    continue
                found = parting_worths(many, content, other)
                tops = [[sum(sorted(row)[many - size:]) for size in range(1, many)] for row in (content, other)]
                over = [size for size, one, two in zip(range(1, many), *tops) if one > two]
                if over:
                    size = over[0]
                    self.assertEqual(found, (size, (comb(many, size) + 1,) * size + (1,) * (many - size)))
                    self.assertIs(is_parting(many, content, other, found[1]), True)
                else:
                    self.assertIsNone(found)
                    self.assertTrue(is_evener(many, content, other))
                    for worths in tests[::3]:
                        self.assertIs(is_parting(many, content, other, worths), False)

    def test_great_numbers(self):
        content, other = (24, 24, 0, 0, 0), (24, 23, 1, 0, 0)
        self.assertEqual(parting_worths(5, content, other), (2, (11, 11, 1, 1, 1)))
        self.assertIs(is_parting(5, content, other, (11, 11, 1, 1, 1)), True)
        self.assertIs(is_parting(5, content, other, (100, 100, 100, 100, 100)), False)
        self.assertIsNone(parting_worths(5, other, content))

    def test_errors_in_their_order(self):
        for call, others in ((parting_worths, ()), (is_parting, (None,))):
            self.assert_error(BadMany(1), call, 1, None, None, *others)
            self.assert_error(BadContent(None), call, 3, None, 5, *others)
            self.assert_error(BadContent((0, 25, 0)), call, 3, (0, 0, 0), (0, 25, 0), *others)
        self.assert_error(BadTotal(4), parting_worths, 3, (1, 0, 0), (2, 2, 0))
        self.assert_error(BadTotal(0), parting_worths, 3, (1, 0, 0), (0, 0, 0))
        for value in (*NO_WORTHS, (-1, 0, 0), (1, 2, -100)):
            self.assert_error(BadWorths(value), is_parting, 3, (1, 0, 0), (2, 2, 0), value)
        self.assert_error(BadTotal(4), is_parting, 3, (1, 0, 0), (2, 2, 0), (0, 0, 0))


class TellingTest(RaisingTest):
    def test_test_worths(self):
        self.assertEqual(worths_file.test_worths(2, 3), [(0, 0), (1, 0), (1, 1), (2, 0), (2, 1), (3, 0)])
        self.assertEqual(worths_file.test_worths(3, 0), [(0, 0, 0)])
        for many in range(2, 6):
            for total in range(13 if many < 4 else 6):
                told = [row for row in product(range(total + 1), repeat=many)
                        if sum(row) <= total and list(row) == sorted(row, reverse=True)]
                self.assertEqual(worths_file.test_worths(many, total), sorted(told, key=lambda row: (sum(row), row)))
        self.assertEqual(worths_file.test_worths(5, 12)[-1], (12, 0, 0, 0, 0))

    def told_by_hand(self, many, sort, other):
        for worths in worths_file.test_worths(many, max(marks(many, sort), marks(many, other))):
            if sum_at(many, sort, worths) != sum_at(many, other, worths):
                return worths
        return None

    def test_small_sorts(self):
        self.assertEqual(telling_worths(2, ("subset", 2), ("bag", 2)), (1, 0))
        for many in range(2, 5):
            sorts = [sort for number, sort in SMALL if number == many]
            for sort, other in product(sorts, repeat=2):
                found = telling_worths(many, sort, other)
                self.assertEqual(found, self.told_by_hand(many, sort, other))
                self.assertIs(found is None, are_alike(many, sort, other))

    def test_sorts_that_are_told_apart_late(self):
        for many, sort, other, worths in (
                (3, NONE, ("subset", 0), (0, 0, 0)), (3, NONE, ONE, (1, 0, 0)), (3, ("subset", 2), NONE, (1, 1, 0)),
                (5, ("subset", 5), NONE, (1, 1, 1, 1, 1)), (2, ("pair", ONE, ONE), ("bag", 2), (1, 1)),
                (3, LIST, ("either", ("bag", 3), ("pair", ONE, ("subset", 2))), (1, 1, 0)),
                (3, LIST, ("either", LIST, ("subset", 3)), (1, 1, 1)),
                (4, ("bag", 6), ("either", ("bag", 6), ("list", 2, ("subset", 3))), (1, 1, 1, 0))):
            self.assertEqual(telling_worths(many, sort, other), worths)
            self.assertEqual(telling_worths(many, other, sort), worths)
            self.assertEqual(self.told_by_hand(many, sort, other), worths)

    def test_great_sorts(self):
        for (many, sort), (number, other) in product(GREAT, repeat=2):
            if many == number:
                found = telling_worths(many, sort, other)
                self.assertIs(found is None, are_alike(many, sort, other))
                if found is not None:
                    self.assertNotEqual(sum_at(many, sort, found), sum_at(many, other, found))
        self.assertIsNone(telling_worths(3, GREATEST, ("list", 10, ("list", 3, TEN))))
        self.assertEqual(telling_worths(3, GREATEST, ("list", 10, ("list", 2, TEN))), (0, 0, 0))

    def test_errors_in_their_order(self):
        self.assert_error(BadMany(1), telling_worths, 1, 5, 5)
        self.assert_error(BadSort(()), telling_worths, 3, 5, ("either", 5, 5))
        self.assert_error(BadSort((1,)), telling_worths, 3, ONE, ("either", 5, 5))
        self.assert_error(TooGreat(10), telling_worths, 3, ONE, deep(11))
