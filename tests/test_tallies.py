"""Tallies: promise [33]."""

from collections import Counter
from itertools import combinations, combinations_with_replacement, product

from unithouse.counts import counts
from unithouse.errors import (BadContent, BadIndex, BadMany, BadName, BadSort, BadTable, SameName, TooGreat)
from unithouse.tallies import Tally, tally

from tests.raising import RaisingTest
from tests.samples import EMPTY, GREAT, NONE, ODD_VALUES, ONE, SMALL, TOO_MANY, TWO_KINDS

WRONG_TIMES = (-1, 13, True, False, None, "1", 1.0, (1,))

SAMPLES = (
    Tally(2, []),
    Tally(2, [((0, 0), 1)]),
    Tally(2, [((0, 0), 3)]),
    tally(2, ONE),
    Tally(2, [((1, 0), 2)]),
    Tally(2, [((2, 0), 1), ((0, 0), 2), ((1, 1), 3)]),
    Tally(2, [((0, 1), 2), ((0, 2), 1)]),
)


def things(one):
    """Return the list of the contents of a tally, each as often as its number says."""
    return [content for content, number in one.pairs for _ in range(number)]


def summed(rows, many):
    """Return the tally of the sums of some rows of contents."""
    sums = Counter(tuple(sum(content[name] for content in row) for name in range(many)) for row in rows)
    return Tally(many, list(sums.items()))


def product_of(one, other):
    """Return the entries of a product, pair by pair."""
    found = Counter()
    for left, times in one.pairs:
        for right, number in other.pairs:
            found[tuple(a + b for a, b in zip(left, right))] += times * number
    return sorted(found.items())


class MadeTest(RaisingTest):
    def test_attributes(self):
        pairs = [((2, 0), 1), ((0, 5), 10 ** 40), ((24, 24), 2)]
        wanted = (((0, 5), 10 ** 40), ((2, 0), 1), ((24, 24), 2))
        for passed in (pairs, tuple(pairs), pairs[::-1]):
            made = Tally(2, passed)
            self.assertEqual(made.many, 2)
            self.assertEqual(made.pairs, wanted)
            self.assertIsInstance(made.pairs, tuple)
            self.assertEqual(vars(made)["pairs"], wanted)
            self.assertEqual(len(made), 3)
            self.assertEqual(made.entries(), list(wanted))
            self.assertEqual(made.total(), 10 ** 40 + 3)
        self.assertEqual(pairs, [((2, 0), 1), ((0, 5), 10 ** 40), ((24, 24), 2)])

    def test_no_contents(self):
        for passed in ([], ()):
            made = Tally(3, passed)
            self.assertEqual((made.many, made.pairs, len(made), made.entries(), made.total()), (3, (), 0, [], 0))
            self.assertEqual(made.at((0, 0, 0)), 0)

    def test_it_keeps_nothing_that_is_passed_or_returned(self):
        passed = [((1, 0), 1)]
        made = Tally(2, passed)
        passed.append(((0, 1), 1))
        made.entries().clear()
        self.assertEqual(made.pairs, (((1, 0), 1),))
        self.assertEqual(made.entries(), [((1, 0), 1)])
        self.assertIsNot(made.entries(), made.entries())

    def test_at(self):
        made = Tally(3, [((0, 0, 0), 5), ((24, 0, 1), 7)])
        self.assertEqual(made.at((0, 0, 0)), 5)
        self.assertEqual(made.at((24, 0, 1)), 7)
        self.assertEqual(made.at((0, 24, 1)), 0)
        for value in ((), (0, 0), (0, 0, 0, 0), (0, 0, 25), (0, 0, False), [0, 0, 0], (0, 0, 0.0), *ODD_VALUES):
            self.assert_error(BadContent(value), made.at, value)

    def test_wrong_pairs(self):
        good = ((0, 0, 1), 1)
        wrong = [
            {(0, 0, 1): 1}, "", None, 5, good, {good}, [5], [good, None], [[(0, 0, 1), 1]], [((0, 0, 1),)],
            [((0, 0, 1), 1, 1)], [((0, 0, 1), 0)], [((0, 0, 1), -1)], [((0, 0, 1), True)], [((0, 0, 1), 1.0)],
            [((0, 0, 1), "1")], [((0, 0), 1)], [((0, 0, 25), 1)], [((0, 0, True), 1)], [([0, 0, 1], 1)],
            [good, good], [good, ((0, 0, 1), 2)], (good, ((1, 0, 0), 1), good), [((0, 0, 1), None)],
        ]
        for value in wrong:
            self.assert_error(BadTable(value), Tally, 3, value)
        self.assert_error(BadMany(1), Tally, 1, None)
        self.assert_error(BadMany(True), Tally, True, [])
        self.assert_error(BadMany(6), Tally, 6, [])

    def test_equal(self):
        self.assertTrue(Tally(2, [((1, 0), 1), ((0, 1), 2)]) == Tally(2, (((0, 1), 2), ((1, 0), 1))))
        self.assertFalse(Tally(2, [((1, 0), 1)]) != Tally(2, [((1, 0), 1)]))
        others = (Tally(2, [((1, 0), 2)]), Tally(2, [((0, 1), 1)]), Tally(2, []), Tally(3, []),
                  Tally(2, [((1, 0), 1), ((0, 1), 1)]), (((1, 0), 1),), [((1, 0), 1)], None, 2, "")
        for other in others:
            self.assertFalse(Tally(2, [((1, 0), 1)]) == other)
            self.assertTrue(Tally(2, [((1, 0), 1)]) != other)
        self.assertFalse(Tally(2, []) == Tally(3, []))

    def test_methods_stand_in_the_class(self):
        for name in ("__init__", "__add__", "__mul__", "__pow__", "__eq__", "__len__", "at", "entries", "total",
                     "chosen", "heaped", "exchanged"):
            self.assertIn(name, vars(Tally))


class OfSortTest(RaisingTest):
    def test_of_a_sort(self):
        for many, sort in SMALL + GREAT:
            made = tally(many, sort)
            self.assertEqual(made.entries(), counts(many, sort))
            self.assertEqual(made.many, many)

    def test_errors(self):
        self.assert_error(BadMany(0), tally, 0, 5)
        self.assert_error(BadSort((2,)), tally, 3, ("family", 2, ("bag", 2)))
        self.assert_error(TooGreat(10 ** 30), tally, 3, TOO_MANY)

    def test_facts(self):
        for many, sort in SMALL:
            word = sort[0]
            if word == "either":
                self.assertTrue(tally(many, sort) == tally(many, sort[1]) + tally(many, sort[2]))
            elif word == "pair":
                self.assertTrue(tally(many, sort) == tally(many, sort[1]) * tally(many, sort[2]))
            elif word == "list":
                self.assertTrue(tally(many, sort) == tally(many, sort[2]) ** sort[1])
            elif word == "family":
                self.assertTrue(tally(many, sort) == tally(many, sort[2]).chosen(sort[1]))
            elif word == "heap":
                self.assertTrue(tally(many, sort) == tally(many, sort[2]).heaped(sort[1]))

    def test_an_exchange_leaves_the_tally_of_a_sort(self):
        for many, sort in SMALL + GREAT:
            made = tally(many, sort)
            for first, second in ((0, 1), (many - 1, 0), (many - 2, many - 1)):
                self.assertTrue(made.exchanged(first, second) == made)


class OperatorsTest(RaisingTest):
    def test_example(self):
        made = tally(2, ONE)
        self.assertEqual((made * made).entries(), [((0, 2), 1), ((1, 1), 2), ((2, 0), 1)])
        self.assertEqual(made.chosen(2).entries(), [((1, 1), 1)])
        self.assertEqual(made.chosen(0).entries(), [((0, 0), 1)])

    def test_sums_and_products(self):
        for one, other in product(SAMPLES, repeat=2):
            found = Counter(dict(one.pairs))
            found.update(dict(other.pairs))
            self.assertEqual((one + other).entries(), sorted(found.items()))
            self.assertEqual((one * other).entries(), product_of(one, other))
            self.assertIsInstance(one + other, Tally)
            self.assertIsInstance(one * other, Tally)

    def test_they_change_neither_side(self):
        one, other = SAMPLES[5], SAMPLES[6]
        before = (one.pairs, other.pairs)
        _ = (one + other, one * other, one ** 2, one.chosen(2), one.heaped(2), one.exchanged(0, 1))
        self.assertEqual((one.pairs, other.pairs), before)
        self.assertEqual(one.at((1, 1)), 3)

    def test_powers(self):
        for one in SAMPLES:
            self.assertEqual((one ** 0).entries(), [((0, 0), 1)])
            self.assertTrue(one ** 1 == one)
            self.assertTrue(one ** 2 == one * one)
            self.assertTrue(one ** 3 == one * one * one)
        self.assertEqual(len(tally(2, ONE) ** 12), 13)
        self.assertEqual((Tally(2, [((2, 0), 1)]) ** 12).entries(), [((24, 0), 1)])
        self.assertEqual((Tally(2, []) ** 12).entries(), [])
        self.assertEqual((Tally(5, [((0,) * 5, 10)]) ** 12).entries(), [((0,) * 5, 10 ** 12)])

    def test_another_number_of_names(self):
        for one, other in ((Tally(2, []), Tally(3, [])), (tally(5, ONE), tally(4, ONE))):
            self.assert_error(BadMany(other.many), lambda one=one, other=other: one + other)
            self.assert_error(BadMany(one.many), lambda one=one, other=other: other + one)
            self.assert_error(BadMany(other.many), lambda one=one, other=other: one * other)
            self.assert_error(BadMany(one.many), lambda one=one, other=other: other * one)

    def test_twenty_four_marks(self):
        twelve, thirteen = Tally(2, [((12, 0), 1)]), Tally(2, [((0, 1), 1), ((13, 0), 1)])
        self.assertEqual((twelve * twelve).entries(), [((24, 0), 1)])
        self.assert_error(TooGreat(24), lambda: twelve * thirteen)
        self.assert_error(TooGreat(24), lambda: thirteen * twelve)
        full = Tally(2, [((24, 24), 1)])
        self.assert_error(TooGreat(24), lambda: full * full)
        self.assertTrue(full * Tally(2, [((0, 0), 1)]) == full)
        self.assert_error(TooGreat(24), lambda: full ** 2)
        self.assert_error(TooGreat(24), lambda: Tally(3, [((0, 0, 3), 1)]) ** 9)
        self.assertEqual((Tally(3, [((0, 0, 3), 1)]) ** 8).entries(), [((0, 0, 24), 1)])

    def test_250000_products(self):
        first = Tally(5, [((a, b, 0, 0, 0), 1) for a in range(20) for b in range(25)])
        last = Tally(5, [((0, 0, 0, a, b), 2) for a in range(20) for b in range(25)])
        self.assertEqual((len(first), len(last)), (500, 500))
        made = first * last
        self.assertEqual(len(made), 250000)
        self.assertEqual(made.at((19, 24, 0, 19, 24)), 2)
        one_more = first + Tally(5, [((24, 24, 0, 0, 0), 1)])
        self.assert_error(TooGreat(250000), lambda: one_more * last)
        self.assert_error(TooGreat(250000), lambda: last * one_more)
        # The bound on the products goes ahead of that on the marks.
        self.assert_error(TooGreat(250000), lambda: one_more * one_more)
        self.assert_error(TooGreat(24), lambda: first * first)
        self.assert_error(TooGreat(250000), lambda: one_more ** 2)
        self.assert_error(TooGreat(24), lambda: last ** 2)
        self.assertTrue(one_more ** 1 == one_more)
        self.assertTrue(made ** 1 == made)
        great = made + Tally(5, [((0, 0, 1, 0, 0), 1)])
        self.assertEqual((great ** 0).entries(), [((0,) * 5, 1)])
        self.assert_error(TooGreat(250000), lambda: great ** 1)

    def test_wrong_times(self):
        for value in WRONG_TIMES:
            self.assert_error(BadIndex(value), lambda value=value: Tally(2, [((24, 24), 1)]) ** value)
            self.assert_error(BadIndex(value), Tally(2, [((24, 24), 1)]).chosen, value)
            self.assert_error(BadIndex(value), Tally(2, [((24, 24), 1)]).heaped, value)


class TakenTest(RaisingTest):
    def test_against_all_ways(self):
        for one in SAMPLES:
            kinds = things(one)
            for times in range(5):
                self.assertTrue(one.chosen(times) == summed(combinations(kinds, times), 2), (one.pairs, times))
                ways = combinations_with_replacement(kinds, times)
                self.assertTrue(one.heaped(times) == summed(ways, 2), (one.pairs, times))

    def test_great_numbers(self):
        made = Tally(2, [((0, 0), 10 ** 20)])
        self.assertEqual(made.chosen(2).total(), 10 ** 20 * (10 ** 20 - 1) // 2)
        self.assertEqual(made.heaped(2).total(), 10 ** 20 * (10 ** 20 + 1) // 2)
        self.assertEqual(made.chosen(12).pairs[0][0], (0, 0))
        self.assertEqual(Tally(2, [((0, 0), 11)]).chosen(12).entries(), [])
        self.assertEqual(Tally(2, [((0, 0), 1)]).heaped(12).entries(), [((0, 0), 1)])

    def test_no_contents(self):
        made = Tally(4, [])
        for call in (made.chosen, made.heaped):
            self.assertEqual(call(0).entries(), [((0, 0, 0, 0), 1)])
            for times in range(1, 13):
                self.assertEqual(call(times).entries(), [])
                self.assertEqual(call(times).many, 4)

    def test_twelve_marks(self):
        for content, most in (((1, 0), 12), ((1, 1), 6), ((2, 1), 4), ((2, 2), 3), ((5, 1), 2), ((5, 2), 1),
                              ((12, 0), 1), ((12, 1), 0), ((24, 24), 0)):
            made = Tally(2, [((0, 0), 1), (content, 20)])
            for call in (made.chosen, made.heaped):
                greatest = call(most).pairs[-1][0]
                self.assertEqual(greatest, (most * content[0], most * content[1]))
                if most < 12:
                    self.assert_error(TooGreat(12), call, most + 1)
                    self.assert_error(TooGreat(12), call, 12)

    def test_facts(self):
        small = [one for one in SAMPLES if max([sum(content) for content, _ in one.pairs], default=0) <= 2]
        small.append(tally(2, ("either", EMPTY, TWO_KINDS)))
        for one in small:
            self.assertTrue(one * one == one.chosen(2) + one.heaped(2))
            for size in range(1, 5):
                sums = [Tally(2, []), Tally(2, [])]
                for own in range(size + 1):
                    sums[own % 2] = sums[own % 2] + one.chosen(own) * one.heaped(size - own)
                self.assertTrue(sums[0] == sums[1])
        for one, other in product(small, repeat=2):
            for size in range(5):
                chosen = heaped = Tally(2, [])
                for own in range(size + 1):
                    chosen = chosen + one.chosen(own) * other.chosen(size - own)
                    heaped = heaped + one.heaped(own) * other.heaped(size - own)
                self.assertTrue((one + other).chosen(size) == chosen)
                self.assertTrue((one + other).heaped(size) == heaped)

    def test_many_contents(self):
        every = Tally(5, [(content, 1 + sum(content)) for content in product(range(7), repeat=5) if sum(content) <= 6])
        self.assertEqual(len(every), 462)
        self.assertTrue(every * every == every.chosen(2) + every.heaped(2))


class ExchangedTest(RaisingTest):
    def test_exchanged(self):
        made = Tally(3, [((1, 2, 3), 4), ((0, 0, 24), 1)])
        self.assertEqual(made.exchanged(0, 2).entries(), [((3, 2, 1), 4), ((24, 0, 0), 1)])
        self.assertEqual(made.exchanged(2, 1).entries(), [((0, 24, 0), 1), ((1, 3, 2), 4)])
        for one in SAMPLES:
            self.assertTrue(one.exchanged(0, 1).exchanged(1, 0) == one)

    def test_errors_in_their_order(self):
        made = Tally(3, [])
        for value in (-1, 3, True, False, None, "a"):
            self.assert_error(BadName(value), made.exchanged, value, 7)
            self.assert_error(BadName(value), made.exchanged, 0, value)
            self.assert_error(BadName(value), made.exchanged, value, value)
        self.assert_error(SameName(2), made.exchanged, 2, 2)


class ParametersTest(RaisingTest):
    def test_by_name(self):
        made = Tally(many=2, pairs=[((1, 0), 2)])
        self.assertEqual(made.at(content=(1, 0)), 2)
        self.assertTrue(made.chosen(times=1) == made.heaped(times=1))
        self.assertEqual(made.exchanged(first=1, second=0).entries(), [((0, 1), 2)])
        self.assertTrue(tally(many=2, sort=NONE) == Tally(2, ()))
