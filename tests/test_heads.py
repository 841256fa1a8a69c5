"""Heads and lengths of strings, worked out from the sort alone: promises [23] to [27]."""

from collections import Counter
from itertools import combinations, permutations

from unithouse.counts import count_at, counts
from unithouse.errors import BadContent, BadMany, BadName, BadSort, SameName, TooGreat
from unithouse.heads import heads, lengths, string_count, strings_at
from unithouse.sorts import how_many
from unithouse.strings import heads_listed, string_place

from tests import reference, reference_heads
from tests.raising import RaisingTest
from tests.samples import EMPTY, GREAT, GREATEST, NONE, ODD_VALUES, ONE, SMALL, TOO_MANY, deep

LIST = ("list", 2, ONE)
FAMILY = ("family", 2, ("subset", 2))


class ToldTest(RaisingTest):
    def test_examples(self):
        self.assertEqual(heads(3, LIST, 0, 1), [((0, 0, 2), 1), ((1, 0, 1), 2), ((1, 1, 0), 1), ((2, 0, 0), 1)])
        self.assertEqual(lengths(4, FAMILY, 0, 1), {0: 4, 1: 4, 2: 1})
        self.assertEqual(strings_at(4, FAMILY, (1, 1, 1, 1), 0, 1), {0: 2, 2: 1})
        self.assertEqual(string_count(4, FAMILY, 0, 1), 9)

    def test_one_line_of_each_word_by_hand(self):
        told = (
            (NONE, []),
            (ONE, [((0, 0, 1), 1), ((1, 0, 0), 1)]),
            (("subset", 2), [((1, 0, 1), 1), ((1, 1, 0), 1)]),
            (("bag", 2), [((0, 0, 2), 1), ((1, 0, 1), 1), ((2, 0, 0), 1)]),
            (("either", ONE, ONE), [((0, 0, 1), 2), ((1, 0, 0), 2)]),
            (("pair", ONE, ("bag", 0)), [((0, 0, 1), 1), ((1, 0, 0), 1)]),
            (("list", 0, NONE), [((0, 0, 0), 1)]),
            (("list", 0, ONE), [((0, 0, 0), 1)]),
            (("family", 2, ONE), [((1, 0, 1), 1), ((1, 1, 0), 1)]),
            (("family", 0, NONE), [((0, 0, 0), 1)]),
            (("heap", 2, ONE), [((0, 0, 2), 1), ((1, 0, 1), 1), ((2, 0, 0), 1)]),
            (("rounds", 1), [((1, 0, 2), 1), ((1, 1, 1), 1), ((2, 0, 1), 1), ((2, 1, 0), 1)]),
            (("trees",), [((1, 1, 2), 1), ((2, 1, 1), 1)]),
            (("rooted",), heads(3, LIST, 0, 1)),
        )
        for sort, found in told:
            self.assertEqual(heads(3, sort, 0, 1), found, sort)
            self.assertEqual(heads(3, sort, 1, 0), found, sort)

    def test_no_strings(self):
        for sort in (NONE, ("subset", 4), ("pair", ONE, NONE), ("family", 4, ONE), ("heap", 2, NONE)):
            self.assertEqual(heads(3, sort, 0, 2), [])
            self.assertEqual(lengths(3, sort, 0, 2), {})
            self.assertEqual(string_count(3, sort, 0, 2), 0)
            self.assertEqual(strings_at(3, sort, (0, 0, 0), 0, 2), {})

    def test_a_string_of_one_member(self):
        for sort in (EMPTY, ("list", 0, NONE), ("heap", 7, EMPTY)):
            self.assertEqual(heads(3, sort, 1, 2), [((0, 0, 0), 1)])
            self.assertEqual(lengths(3, sort, 1, 2), {0: 1})
            self.assertEqual(string_count(3, sort, 1, 2), 1)
            self.assertEqual(strings_at(3, sort, (0, 0, 0), 1, 2), {0: 1})

    def test_a_list_of_none_of_a_part_that_passes_all_bounds(self):
        great = ("list", 0, ("pair", ("bag", 12), ("list", 2, ("bag", 12))))
        self.assertEqual(heads(3, ("pair", ONE, great), 0, 1), heads(3, ONE, 0, 1))


class AgainstMembersTest(RaisingTest):
    def test_heads(self):
        for many, sort in SMALL:
            for one, other in permutations(range(many), 2):
                listed = [reference.content(many, sort, head) for head in heads_listed(many, sort, one, other)]
                found = heads(many, sort, one, other)
                self.assertIsInstance(found, list)
                self.assertEqual(found, sorted(Counter(listed).items()), (many, sort))
                self.assertEqual(string_count(many, sort, one, other), len(listed))
                low, high = min(one, other), max(one, other)
                sizes = Counter(content[low] - content[high] for content in listed)
                self.assertEqual(lengths(many, sort, one, other), dict(sizes))
                self.assertEqual(list(lengths(many, sort, one, other)), sorted(sizes))

    def test_strings_at(self):
        for many, sort in SMALL:
            for low, high in combinations(range(many), 2):
                sizes = {}
                for member in reference.all_members(many, sort):
                    content = reference.content(many, sort, member)
                    length = string_place(many, sort, member, low, high)[1]
                    sizes.setdefault(content, Counter())[length] += 1
                for content, found in sizes.items():
                    self.assertEqual(strings_at(many, sort, content, low, high), dict(found))
                    self.assertEqual(strings_at(many, sort, content, high, low), dict(found))

    def test_contents_that_no_member_has(self):
        for many, sort in SMALL:
            for content in ((24,) * many, (0,) * (many - 1) + (24,), (24,) + (0,) * (many - 1)):
                self.assertEqual(strings_at(many, sort, content, 0, many - 1), {})
                self.assertEqual(strings_at(many, sort, content, many - 1, many - 2), {})

    def test_a_content_outside_of_all_strings_of_its_sum(self):
        self.assertEqual(strings_at(3, ("subset", 2), (2, 0, 0), 0, 1), {})
        self.assertEqual(strings_at(3, ("subset", 2), (0, 2, 0), 0, 1), {})


class FactsTest(RaisingTest):
    def test_the_told_way_from_the_sort(self):
        for many, sort in SMALL + GREAT:
            for low, high in combinations(range(many), 2):
                found = reference_heads.heads(many, sort, low, high)
                told = sorted((content, count) for (content, _), count in found.items() if count)
                self.assertEqual(heads(many, sort, low, high), told, (many, sort))
                sizes = Counter()
                for (_, length), count in found.items():
                    sizes[length] += count
                self.assertEqual(lengths(many, sort, high, low), dict(sizes))
                self.assertEqual(string_count(many, sort, high, low), sum(found.values()))

    def test_lengths_add_up_to_the_members(self):
        for many, sort in SMALL + GREAT:
            for low, high in combinations(range(many), 2):
                told = lengths(many, sort, low, high)
                self.assertEqual(sum((length + 1) * number for length, number in told.items()), how_many(many, sort))
                self.assertTrue(all(number > 0 for number in told.values()))

    def test_strings_at_a_content_add_up_to_its_count(self):
        for many, sort in SMALL + GREAT:
            told = counts(many, sort)
            for content, count in told[::len(told) // 10 + 1]:
                found = strings_at(many, sort, content, many - 1, 0)
                self.assertEqual(sum(found.values()), count)
                self.assertTrue(all(number > 0 for number in found.values()))

    def test_heads_are_what_a_transfer_back_does_not_reach(self):
        for many, sort in GREAT:
            told = dict(heads(many, sort, 0, 1))
            found = counts(many, sort)
            for content, count in found[::len(found) // 10 + 1]:
                if content[0] >= content[1]:
                    above = 0
                    if content[1] > 0:
                        above = count_at(many, sort, (content[0] + 1, content[1] - 1) + content[2:])
                    self.assertEqual(told.get(content, 0), count - above)

    def test_other_names(self):
        for many, sort in SMALL + GREAT:
            first = heads(many, sort, 0, 1)
            for low, high in combinations(range(many), 2):
                others = [name for name in range(many) if name not in (low, high)]
                place = {name: at for at, name in enumerate([low, high, *others])}
                moved = sorted((tuple(content[place[name]] for name in range(many)), count)
                               for content, count in first)
                self.assertEqual(heads(many, sort, low, high), moved)
                self.assertEqual(lengths(many, sort, low, high), lengths(many, sort, 0, 1))

    def test_many_members(self):
        self.assertEqual(heads(3, GREATEST, 0, 1), [((0, 0, 0), 10 ** 30)])
        self.assertEqual(string_count(5, ("list", 12, ("either", ONE, ONE)), 3, 1),
                         2 ** 12 * string_count(5, ("list", 12, ONE), 1, 3))
        self.assertEqual(strings_at(2, ("list", 12, ONE), (6, 6), 0, 1),
                         {0: 132, 2: 297, 4: 275, 6: 154, 8: 54, 10: 11, 12: 1})


class ErrorsTest(RaisingTest):
    def test_errors_in_their_order(self):
        for call in (heads, lengths, string_count):
            self.assert_error(BadMany(1), call, 1, 5, 7, 7)
            self.assert_error(BadSort(()), call, 3, 5, 7, 7)
            self.assert_error(TooGreat(10), call, 3, deep(11), 7, 7)
            self.assert_error(TooGreat(10 ** 30), call, 3, TOO_MANY, 7, 7)
            for value in (-1, 3, True, False, None, "a", 0.0):
                self.assert_error(BadName(value), call, 3, ONE, value, 7)
                self.assert_error(BadName(value), call, 3, ONE, 0, value)
                self.assert_error(BadName(value), call, 3, ONE, value, value)
            self.assert_error(SameName(2), call, 3, ONE, 2, 2)

    def test_errors_of_strings_at(self):
        self.assert_error(BadMany(True), strings_at, True, 5, None, 7, 7)
        self.assert_error(BadSort((1,)), strings_at, 3, ("pair", 5, ONE), None, 7, 7)
        for value in ((), (0, 0), (0, 0, 25), (0, 0, -1), (0, 0, True), [0, 0, 0], *ODD_VALUES):
            self.assert_error(BadContent(value), strings_at, 3, ONE, value, 7, 7)
        for value in (-1, 3, True, None, "a"):
            self.assert_error(BadName(value), strings_at, 3, ONE, (0, 0, 24), value, 7)
            self.assert_error(BadName(value), strings_at, 3, ONE, (0, 0, 24), 0, value)
        self.assert_error(SameName(0), strings_at, 3, ONE, (0, 0, 0), 0, 0)

    def test_what_is_changed_changes_nothing_else(self):
        heads(3, LIST, 0, 1).clear()
        lengths(3, LIST, 0, 1).clear()
        strings_at(3, LIST, (1, 1, 0), 0, 1)[0] = 5
        self.assertEqual(len(heads(3, LIST, 0, 1)), 4)
        self.assertEqual(lengths(3, LIST, 0, 1), {0: 2, 1: 2, 2: 1})
        self.assertEqual(strings_at(3, LIST, (1, 1, 0), 0, 1), {0: 1, 2: 1})
