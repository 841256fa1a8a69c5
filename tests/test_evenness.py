"""Evenness and its papers: promises [40] to [42]."""

from itertools import combinations, permutations, product

from unithouse.counts import count_at, counts
from unithouse.errors import BadContent, BadMany, TooGreat
from unithouse.evenness import evenness_paper, is_evener, is_evenness_paper, showing_sort, sizes_of, tops
from unithouse.sorts import how_many, need_sort
from unithouse.ways import is_way

from tests.raising import RaisingTest
from tests.samples import GREAT, NONE, ODD_VALUES, ONE, SMALL, TOO_MANY, deep

WRONG_ROWS = ((), (0, 0), (0, 0, 0, 0), (0, 0, 25), (0, 0, -1), (0, 0, True), (0, 0, 0.0), [0, 0, 0], *ODD_VALUES)


def rows(many, most):
    """Return the list of all rows whose numbers are at most so great."""
    return list(product(range(most + 1), repeat=many))


def evener_by_hand(row, other):
    """Whether a row is evener, by the sums of all choices of K of its numbers."""
    if sum(row) != sum(other):
        return False
    return all(max(sum(chosen) for chosen in combinations(row, size))
               <= max(sum(chosen) for chosen in combinations(other, size)) for size in range(1, len(row)))


class TopsTest(RaisingTest):
    def test_by_hand(self):
        self.assertEqual(tops(3, (0, 1, 3)), (0, 3, 4, 4))
        self.assertEqual(tops(3, (2, 1, 1)), (0, 2, 3, 4))
        self.assertEqual(tops(3, (0, 0, 0)), (0, 0, 0, 0))
        self.assertEqual(tops(2, (24, 24)), (0, 24, 48))
        self.assertEqual(tops(5, (1, 24, 0, 1, 7)), (0, 24, 31, 32, 33, 33))

    def test_all_small_rows(self):
        for many, most in ((2, 5), (3, 3), (4, 2), (5, 1)):
            for row in rows(many, most):
                told = tuple(max(sum(chosen) for chosen in combinations(row, size)) for size in range(many + 1))
                self.assertEqual(tops(many, row), told)

    def test_errors(self):
        self.assert_error(BadMany(1), tops, 1, None)
        for value in WRONG_ROWS:
            self.assert_error(BadContent(value), tops, 3, value)


class EvenerTest(RaisingTest):
    def test_examples(self):
        self.assertIs(is_evener(3, (2, 1, 1), (0, 1, 3)), True)
        self.assertIs(is_evener(3, (0, 3, 1), (2, 2, 0)), False)

    def test_all_small_rows(self):
        for many, most in ((2, 5), (3, 3), (4, 2)):
            for row, other in product(rows(many, most), repeat=2):
                self.assertIs(is_evener(many, row, other), evener_by_hand(row, other), (row, other))

    def test_equal_numbers_in_any_order(self):
        for row in ((0, 0, 0), (1, 2, 3), (24, 24, 0), (5, 5, 5)):
            for other in permutations(row):
                self.assertIs(is_evener(3, row, other), True)

    def test_unlike_sums(self):
        for row, other in (((1, 1, 1), (4, 0, 0)), ((1, 1, 1), (2, 0, 0)), ((0, 0, 0), (24, 24, 24)),
                           ((24, 24, 24), (24, 24, 23))):
            self.assertIs(is_evener(3, row, other), False)
            self.assertIs(is_evener(3, other, row), False)

    def test_rows_of_which_neither_is_evener(self):
        self.assertIs(is_evener(3, (4, 1, 1), (3, 3, 0)), False)
        self.assertIs(is_evener(3, (3, 3, 0), (4, 1, 1)), False)

    def test_errors_in_their_order(self):
        self.assert_error(BadMany(6), is_evener, 6, None, None)
        for value in WRONG_ROWS:
            self.assert_error(BadContent(value), is_evener, 3, value, 5)
            self.assert_error(BadContent(value), is_evener, 3, (0, 0, 0), value)


class ShowingTest(RaisingTest):
    def test_examples(self):
        self.assertEqual(sizes_of(3, (0, 1, 3)), (2, 1, 1))
        self.assertEqual(showing_sort(3, (0, 1, 3)), ("pair", ("list", 1, ("subset", 2)), ("list", 2, ("subset", 1))))

    def test_by_hand(self):
        told = (
            (3, (0, 0, 0), (), ("subset", 0)),
            (3, (2, 2, 2), (3, 3), ("list", 2, ("subset", 3))),
            (3, (0, 12, 0), (1,) * 12, ("list", 12, ("subset", 1))),
            (2, (0, 1), (1,), ("list", 1, ("subset", 1))),
            (4, (1, 4, 2, 2), (4, 3, 1, 1), ("pair", ("list", 1, ("subset", 4)), ("pair", ("list", 1, ("subset", 3)),
                                                                              ("list", 2, ("subset", 1))))),
        )
        for many, row, sizes, sort in told:
            self.assertEqual(sizes_of(many, row), sizes)
            self.assertEqual(showing_sort(many, row), sort)
        self.assertEqual(sizes_of(2, (24, 3)), (2,) * 3 + (1,) * 21)

    def test_facts(self):
        for many, most in ((2, 6), (3, 4), (4, 3), (5, 2)):
            for row in rows(many, most):
                if sum(row) > 12:
                    continue
                sort = need_sort(many, showing_sort(many, row))
                told = dict(counts(many, sort))
                self.assertEqual(told[row], 1)
                for other in told:
                    self.assertTrue(evener_by_hand(other, row), (row, other))
                sizes = sizes_of(many, row)
                self.assertEqual(list(sizes), sorted(sizes, reverse=True))
                self.assertEqual(sum(sizes), sum(row))

    def test_errors_in_their_order(self):
        for call in (sizes_of, showing_sort):
            self.assert_error(BadMany(False), call, False, None)
            for value in WRONG_ROWS:
                self.assert_error(BadContent(value), call, 3, value)
        for row in ((13, 0, 0), (5, 4, 4), (24, 24, 24)):
            self.assert_error(TooGreat(12), showing_sort, 3, row)
        self.assertEqual(showing_sort(3, (4, 4, 4)), ("list", 4, ("subset", 3)))
        self.assertEqual(len(sizes_of(3, (24, 24, 24))), 24)


class PaperTest(RaisingTest):
    def test_all_small_rows(self):
        for many, most in ((2, 5), (3, 3), (4, 1)):
            for row, other in product(rows(many, most), repeat=2):
                paper = evenness_paper(many, row, other)
                self.assertIsInstance(paper, tuple)
                word, shown = paper
                self.assertEqual(word, "way" if evener_by_hand(row, other) else "sort")
                if word == "way":
                    self.assertTrue(is_way(many, other, row, shown))
                else:
                    self.assertGreater(count_at(many, shown, other), count_at(many, shown, row))
                self.assertIs(is_evenness_paper(many, row, other, paper), True)
                if sum(row) == sum(other) and sorted(row) != sorted(other):
                    self.assertIs(is_evenness_paper(many, other, row, paper), False)

    def test_right_papers_of_other_ways_and_sorts(self):
        self.assertIs(is_evenness_paper(3, (1, 1, 0), (2, 0, 0), ("way", (("transfer", 0, 1),))), True)
        self.assertIs(is_evenness_paper(3, (1, 1, 0), (2, 0, 0), ("way", (("transfer", 0, 2), ("exchange", 1, 2)))),
                      True)
        self.assertIs(is_evenness_paper(3, (2, 0, 0), (1, 1, 0), ("sort", ("subset", 2))), True)
        self.assertIs(is_evenness_paper(3, (2, 0, 0), (1, 1, 0), ("sort", ("list", 2, ONE))), True)
        self.assertIs(is_evenness_paper(3, (1, 1, 1), (1, 1, 1), ("way", ())), True)
        self.assertIs(is_evenness_paper(3, (24, 0, 24), (24, 0, 24), ("way", ())), True)
        self.assertIs(is_evenness_paper(3, (1, 0, 0), (0, 0, 0), ("sort", ("subset", 0))), True)

    def test_wrong_papers(self):
        row, other = (1, 1, 0), (2, 0, 0)
        wrong = [
            ("way", ()), ("way", None), ("way", [("transfer", 0, 1)]), ("way", (("transfer", 1, 0),)),
            ("way", (("transfer", 0, 2),)), ("way", (("transfer", 0, 1),) * 2), ("way", (None,)),
            ("way", ((("transfer", 0, 1),),)), ("way", (("transfer", 0, 1),) + (("exchange", 0, 1),) * 60),
            ("sort", ("list", 2, ONE)), ("sort", ("bag", 2)), ("sort", ("subset", 0)), ("sort", NONE),
            ("sort", None), ("sort", 5), ("sort", ()), ("sort", deep(11)), ("sort", TOO_MANY), ("sort", ("bag", 13)),
            ("Way", (("transfer", 0, 1),)), (("transfer", 0, 1),), ("way",), ("way", (("transfer", 0, 1),), 0),
            ["way", (("transfer", 0, 1),)], "way", (("way",), ()), (["way"], ()), *ODD_VALUES,
        ]
        for paper in wrong:
            self.assertIs(is_evenness_paper(3, row, other, paper), False, paper)
        # A way leads from the other row, and a sort has more of the other row.
        self.assertIs(is_evenness_paper(3, other, row, ("way", (("transfer", 0, 1),))), False)
        self.assertIs(is_evenness_paper(3, row, other, ("sort", ("subset", 2))), False)

    def test_bound_on_the_sum(self):
        for row in ((13, 0, 0), (0, 0, 0), (5, 4, 4), (24, 24, 24)):
            self.assert_error(TooGreat(12), evenness_paper, 3, row, (13, 0, 0))
            self.assert_error(TooGreat(12), evenness_paper, 3, row, (24, 24, 24))
        self.assertEqual(evenness_paper(3, (4, 4, 4), (12, 0, 0))[0], "way")
        self.assertEqual(evenness_paper(3, (24, 24, 24), (12, 0, 0))[0], "sort")
        self.assertEqual(evenness_paper(3, (13, 0, 0), (4, 4, 4)), ("sort", ("list", 4, ("subset", 3))))

    def test_every_sort_has_as_many_of_an_evener_row(self):
        for many, sort in SMALL + GREAT:
            told = counts(many, sort)
            for content, count in told[::len(told) // 40 + 1]:
                for other, number in told[::len(told) // 40 + 1]:
                    if is_evener(many, content, other):
                        self.assertGreaterEqual(count, number, (many, sort))
            self.assertEqual(sum(count for _, count in told), how_many(many, sort))

    def test_errors_in_their_order(self):
        for call, others in ((evenness_paper, ()), (is_evenness_paper, (None,))):
            self.assert_error(BadMany(1), call, 1, None, None, *others)
            for value in WRONG_ROWS:
                self.assert_error(BadContent(value), call, 3, value, 5, *others)
                self.assert_error(BadContent(value), call, 3, (0, 0, 0), value, *others)
        self.assert_error(BadContent((0, 25, 0)), evenness_paper, 3, (0, 0, 0), (0, 25, 0))
