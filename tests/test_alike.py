"""Alike sorts and matched members: promises [46] to [48]."""

from collections import Counter
from itertools import permutations

from unithouse.alike import are_alike, check_matching, first_apart, matched, matching
from unithouse.errors import (BadMany, BadMember, BadName, BadPaper, BadSort, NoFree, SameName, TooGreat, Unlike)
from unithouse.readings import can_transfer, transfer
from unithouse.sorts import how_many
from unithouse.strings import exchange, heads_listed, string_members, string_place

from tests import reference
from tests.raising import RaisingTest
from tests.samples import EMPTY, GREAT, GREATEST, NONE, ODD_VALUES, ONE, SMALL, TEN, TOO_MANY, TWO_KINDS, deep

# Two alike sorts each.
ALIKE = (
    (3, ("either", ("rounds", 1), ("subset", 3)), ("pair", ("subset", 2), ONE)),
    (3, ("either", ONE, ("bag", 2)), ("either", ("bag", 2), ("subset", 1))),
    (3, ("list", 2, ONE), ("either", ("bag", 2), ("subset", 2))),
    (4, ("pair", ONE, ("subset", 2)), ("pair", ("family", 2, ONE), ("bag", 1))),
    (3, ("rooted",), ("list", 2, ONE)),
    (4, ("trees",), ("pair", ("subset", 4), ("list", 2, ONE))),
    (2, ("rounds", 2), ("list", 2, ONE)),
    (3, ("rounds", 2), ("pair", ("rounds", 1), ("rounds", 1))),
    (3, ("heap", 2, TWO_KINDS), ("either", ("heap", 2, ONE), ("either", ("pair", ("subset", 2), ONE),
                                                                 ("heap", 2, ("subset", 2))))),
    (4, ("family", 2, ("subset", 2)), ("family", 2, ("either", ("subset", 2), NONE))),
    (3, NONE, ("subset", 4)),
    (3, EMPTY, ("list", 0, NONE)),
    (3, ("either", EMPTY, EMPTY), ("either", ("bag", 0), ("either", NONE, ("heap", 3, EMPTY)))),
)

UNLIKE = (
    (4, ("either", ("rounds", 1), ("subset", 3)), ("pair", ("subset", 2), ONE), ((0, 0, 1, 2), 0, 1)),
    (3, ONE, NONE, ((0, 0, 1), 1, 0)),
    (3, NONE, ONE, ((0, 0, 1), 0, 1)),
    (3, EMPTY, NONE, ((0, 0, 0), 1, 0)),
    (3, ("bag", 2), ("subset", 2), ((0, 0, 2), 1, 0)),
    (3, ("list", 2, ONE), ("bag", 2), ((0, 1, 1), 2, 1)),
    (3, ("either", ONE, ("bag", 2)), ("either", ("bag", 2), EMPTY), ((0, 0, 0), 0, 1)),
    (2, ("bag", 3), ("either", ("bag", 3), ("bag", 2)), ((0, 2), 0, 1)),
)


def pairs_by_hand(many, sort, other, one, two):
    """Return the sorted list of the matched pairs, by the lists of the heads and the strings of both sorts."""
    found = []
    contents = {reference.content(many, sort, member) for member in reference.all_members(many, sort)}
    for content in contents:
        firsts, seconds = [[head for head in heads_listed(many, which, one, two)
                            if reference.content(many, which, head) == content] for which in (sort, other)]
        for head, other_head in zip(firsts, seconds, strict=True):
            found += list(zip(string_members(many, sort, head, one, two),
                              string_members(many, other, other_head, one, two), strict=True))
    return sorted(found)


class AlikeTest(RaisingTest):
    def test_examples(self):
        one, other = ("either", ("rounds", 1), ("subset", 3)), ("pair", ("subset", 2), ONE)
        self.assertIs(are_alike(3, one, other), True)
        self.assertIsNone(first_apart(3, one, other))
        self.assertEqual(first_apart(4, one, other), ((0, 0, 1, 2), 0, 1))

    def test_alike(self):
        for many, one, other in ALIKE:
            self.assertIs(are_alike(many, one, other), True)
            self.assertIs(are_alike(many, other, one), True)
            self.assertIsNone(first_apart(many, one, other))
            self.assertIs(are_alike(many, one, one), True)

    def test_unlike(self):
        for many, one, other, told in UNLIKE:
            self.assertIs(are_alike(many, one, other), False)
            self.assertEqual(first_apart(many, one, other), told)
            self.assertEqual(first_apart(many, other, one), (told[0], told[2], told[1]))

    def test_all_pairs_of_small_sorts(self):
        found = {}
        for many, sort in SMALL:
            found.setdefault(many, []).append((sort, Counter(
                reference.content(many, sort, member) for member in reference.all_members(many, sort))))
        for many, told in found.items():
            for one, counted in told:
                for other, others in told:
                    apart = sorted([(sum(content), content) for content in {*counted, *others}
                                    if counted[content] != others[content]])
                    first = (apart[0][1], counted[apart[0][1]], others[apart[0][1]]) if apart else None
                    self.assertEqual(first_apart(many, one, other), first)
                    self.assertIs(are_alike(many, one, other), not apart)

    def test_many_members(self):
        for many, sort in GREAT:
            self.assertIs(are_alike(many, sort, sort), True)
        great = ("list", 12, ("either", ONE, ONE))
        self.assertIs(are_alike(5, great, ("list", 12, ("either", ("subset", 1), ("bag", 1)))), True)
        self.assertEqual(first_apart(5, great, ("list", 12, ONE)), ((0, 0, 0, 0, 12), 2 ** 12, 1))
        self.assertIs(are_alike(3, GREATEST, ("list", 3, ("list", 5, ("list", 2, TEN)))), True)

    def test_alike_parts_give_alike_sorts(self):
        for many, one, other in ALIKE:
            for within in (lambda part: ("either", ONE, part), lambda part: ("pair", part, ("bag", 2)),
                           lambda part: ("list", 2, part)):
                self.assertIs(are_alike(many, within(one), within(other)), True)
        for word in ("family", "heap"):
            one, other = ("either", ONE, ("subset", 2)), ("either", ("subset", 2), ("subset", 1))
            self.assertIs(are_alike(4, (word, 2, one), (word, 2, other)), True)

    def test_errors_in_their_order(self):
        for call in (are_alike, first_apart):
            self.assert_error(BadMany(1), call, 1, 5, 5)
            self.assert_error(BadSort(()), call, 3, 5, deep(11))
            self.assert_error(TooGreat(10), call, 3, deep(11), 5)
            self.assert_error(BadSort(()), call, 3, ONE, 5)
            self.assert_error(TooGreat(10 ** 30), call, 3, ONE, TOO_MANY)


class MatchedTest(RaisingTest):
    def test_by_hand(self):
        sort, other = ("list", 2, ONE), ("either", ("bag", 2), ("subset", 2))
        told = [((0, 0), (0, (0, 0))), ((0, 1), (1, (0, 1))), ((1, 0), (0, (0, 1))), ((1, 1), (0, (1, 1)))]
        self.assertEqual(matching(2, sort, other, 0, 1), told)
        self.assertEqual(matching(2, sort, other, 1, 0), told)
        for member, led in told:
            self.assertEqual(matched(2, sort, other, 1, 0, member), led)
            self.assertEqual(matched(2, other, sort, 0, 1, led), member)

    def test_all_members(self):
        for many, sort, other in ALIKE:
            for one, two in permutations(range(many), 2):
                found = matching(many, sort, other, one, two)
                self.assertIsInstance(found, list)
                self.assertEqual(found, pairs_by_hand(many, sort, other, one, two))
                self.assertEqual([member for member, _ in found], reference.all_members(many, sort))
                self.assertEqual(sorted(led for _, led in found), reference.all_members(many, other))
                self.assertIsNone(check_matching(many, sort, other, one, two, found))
                self.assertIsNone(check_matching(many, sort, other, two, one, tuple(found)))
                self.assertEqual(matching(many, other, sort, one, two), sorted((led, member) for member, led in found))
                for member, led in found[::7]:
                    self.assertEqual(matched(many, sort, other, one, two, member), led)
                    self.assertEqual(matched(many, other, sort, two, one, led), member)

    def test_facts(self):
        for many, sort, other in ALIKE:
            for one, two in ((0, 1), (many - 1, 0)):
                told = dict(matching(many, sort, other, one, two))
                for member, led in told.items():
                    self.assertEqual(reference.content(many, sort, member), reference.content(many, other, led))
                    self.assertEqual(string_place(many, sort, member, one, two),
                                     string_place(many, other, led, one, two))
                    self.assertEqual(told[exchange(many, sort, member, one, two)],
                                     exchange(many, other, led, one, two))
                    for giver, taker in ((one, two), (two, one)):
                        self.assertIs(can_transfer(many, sort, member, giver, taker),
                                      can_transfer(many, other, led, giver, taker))
                        if can_transfer(many, sort, member, giver, taker):
                            self.assertEqual(told[transfer(many, sort, member, giver, taker)],
                                             transfer(many, other, led, giver, taker))

    def test_a_sort_with_itself(self):
        for many, sort in SMALL[:20]:
            told = reference.all_members(many, sort)
            self.assertEqual(matching(many, sort, sort, 0, 1), [(member, member) for member in told])

    def test_unlike_sorts(self):
        for many, sort, other, told in UNLIKE:
            self.assert_error(Unlike(told[0]), matching, many, sort, other, 0, 1)
        self.assert_error(Unlike((0, 0, 2)), matched, 3, ("bag", 2), ("subset", 2), 0, 1, (0, 0))

    def test_two_thousand_and_more(self):
        two_thousand = ("pair", ("either", ("bag", 0), ("bag", 0)), ("list", 3, TEN))
        one_more = ("either", two_thousand, EMPTY)
        self.assertEqual(len(matching(3, two_thousand, two_thousand, 0, 1)), 2000)
        self.assert_error(TooGreat(2000), matching, 3, one_more, ("either", EMPTY, two_thousand), 0, 1)
        self.assert_error(TooGreat(2000), matched, 3, one_more, one_more, 0, 1, (1, ()))
        self.assert_error(Unlike((0, 0, 0)), matching, 3, one_more, two_thousand, 0, 1)
        self.assert_error(Unlike((0, 0, 0)), matched, 3, one_more, two_thousand, 0, 1, (1, ()))

    def test_errors_in_their_order(self):
        for call, others in ((matching, ()), (matched, (None,)), (check_matching, (None,))):
            self.assert_error(BadMany(1), call, 1, 5, 5, 7, 7, *others)
            self.assert_error(BadSort(()), call, 3, 5, deep(11), 7, 7, *others)
            self.assert_error(TooGreat(10), call, 3, ONE, deep(11), 7, 7, *others)
            for value in (-1, 3, True, False, None, "a"):
                self.assert_error(BadName(value), call, 3, ONE, GREATEST, value, 7, *others)
                self.assert_error(BadName(value), call, 3, ONE, GREATEST, 0, value, *others)
            self.assert_error(SameName(1), call, 3, ONE, GREATEST, 1, 1, *others)
        for value in (None, 3, True, (0,), [0]):
            self.assert_error(BadMember(value), matched, 3, ONE, NONE, 0, 1, value)
        self.assert_error(Unlike((0, 0, 1)), matched, 3, ONE, NONE, 0, 1, 0)

    def test_a_changed_list_changes_nothing_else(self):
        matching(3, ONE, ("subset", 1), 0, 1).clear()
        self.assertEqual(matching(3, ONE, ("subset", 1), 0, 1), [(0, (0,)), (1, (1,)), (2, (2,))])


class CheckTest(RaisingTest):
    SORT, OTHER = ("list", 2, ONE), ("either", ("bag", 2), ("subset", 2))

    def refuse(self, word, pairs, one=0, two=1):
        """Assert that pairs of two names are refused with a word."""
        self.assert_error(BadPaper(word), check_matching, 2, self.SORT, self.OTHER, one, two, pairs)
        self.assert_error(BadPaper(word), check_matching, 2, self.SORT, self.OTHER, two, one, pairs)

    def test_pairs_of_the_wrong_form(self):
        good = matching(2, self.SORT, self.OTHER, 0, 1)
        for value in (None, 5, "", {}, {0: 1}, dict(good), {1}, b"", True):
            self.refuse("pairs", value)
        for value in (None, 5, "ab", [0, 1], (), (0,), (0, 1, 2), {0: 1}):
            self.refuse("pairs", [value])
            self.refuse("pairs", good[:3] + [value])
            self.refuse("pairs", (value, *good))

    def test_wrong_members(self):
        good = matching(2, self.SORT, self.OTHER, 0, 1)
        self.refuse("members", [])
        self.refuse("members", good[:3])
        self.refuse("members", good[::-1])
        self.refuse("members", good + good[:1])
        self.refuse("members", good[:1] + good)
        self.refuse("members", [good[1], good[0], *good[2:]])
        for value in (None, (0,), (0, 0, 0), (0, 2), (False, 0), (0, 0.0), [0, 0], 5, ((0, 0), (0, 0))):
            self.refuse("members", [(value, good[0][1]), *good[1:]])
        # What the members are is looked at ahead of what the others are.
        self.refuse("members", [(None, None)] * 4)

    def test_wrong_others(self):
        good = matching(2, self.SORT, self.OTHER, 0, 1)
        self.refuse("others", [(member, good[0][1]) for member, _ in good])
        self.refuse("others", [*good[:3], (good[3][0], good[0][1])])
        for value in (None, (0, (0,)), (False, (0, 0)), (0, (0, 0.0)), [0, (0, 0)], (2, ()), (1, (1, 0)), 5):
            self.refuse("others", [(good[0][0], value), *good[1:]])
        self.assert_error(BadPaper("others"), check_matching, 3, ONE, ("bag", 2), 0, 1,
                          [(0, (0, 0)), (1, (0, 1)), (2, (0, 2))])
        self.assert_error(BadPaper("others"), check_matching, 3, ONE, NONE, 0, 1, [(0, 0), (1, 1), (2, 2)])

    def test_wrong_contents(self):
        good = matching(2, self.SORT, self.OTHER, 0, 1)
        turned = [(member, led) for (member, _), (_, led) in zip(good, good[::-1])]
        self.refuse("content", turned)
        self.refuse("content", [(good[0][0], good[1][1]), (good[1][0], good[0][1]), *good[2:]])

    def test_wrong_transfers(self):
        good = matching(2, self.SORT, self.OTHER, 0, 1)
        crossed = [good[0], (good[1][0], good[2][1]), (good[2][0], good[1][1]), good[3]]
        self.refuse("transfer", crossed)

    def test_a_transfer_of_one_thing_of_a_pair_alone(self):
        sort = ("either", ("subset", 2), ("bag", 2))
        found = matching(2, sort, self.OTHER, 0, 1)
        self.assertEqual(found[0], ((0, (0, 1)), (1, (0, 1))))
        self.assertEqual(found[2], ((1, (0, 1)), (0, (0, 1))))
        crossed = [(found[0][0], found[2][1]), found[1], (found[2][0], found[0][1]), found[3]]
        self.assert_error(BadPaper("transfer"), check_matching, 2, sort, self.OTHER, 0, 1, crossed)

    def test_transfers_that_both_have_but_to_others(self):
        sort = ("list", 2, ("either", ONE, EMPTY))
        found = matching(2, sort, sort, 0, 1)
        self.assertIsNone(check_matching(2, sort, sort, 0, 1, found))
        one, two = ((0, 0), (1, ())), ((1, ()), (0, 0))
        crossed = [(member, {one: two, two: one}.get(member, led)) for member, led in found]
        self.assert_error(BadPaper("transfer"), check_matching, 2, sort, sort, 0, 1, crossed)

    def test_another_right_matching(self):
        sort = ("list", 2, ("either", ONE, EMPTY))
        ends = {((0, 0), (1, ())): ((1, ()), (0, 0)), ((0, 1), (1, ())): ((1, ()), (0, 1))}
        ends.update({other: member for member, other in ends.items()})
        crossed = [(member, ends.get(member, member)) for member in reference.all_members(2, sort)]
        self.assertNotEqual(crossed, matching(2, sort, sort, 0, 1))
        self.assertIsNone(check_matching(2, sort, sort, 0, 1, crossed))

    def test_right_for_some_names_alone(self):
        sort = ("list", 2, ONE)
        good = matching(3, sort, sort, 0, 1)
        swapped = {(0, 2): (2, 0), (2, 0): (0, 2), (1, 2): (2, 1), (2, 1): (1, 2)}
        crossed = [(member, swapped.get(member, led)) for member, led in good]
        self.assertIsNone(check_matching(3, sort, sort, 0, 1, crossed))
        self.assert_error(BadPaper("transfer"), check_matching, 3, sort, sort, 0, 2, crossed)

    def test_no_members(self):
        self.assertIsNone(check_matching(3, NONE, ("subset", 4), 0, 1, []))
        self.assertIsNone(check_matching(3, NONE, ("subset", 4), 0, 1, ()))
        self.assert_error(BadPaper("members"), check_matching, 3, NONE, ("subset", 4), 0, 1, [(0, 0)])
        self.assert_error(BadPaper("others"), check_matching, 3, NONE, EMPTY, 0, 1, [])
        self.assert_error(BadPaper("members"), check_matching, 3, EMPTY, NONE, 0, 1, [])

    def test_two_thousand_and_more(self):
        great = ("list", 4, TEN)
        for value in (None, *ODD_VALUES):
            self.assert_error(TooGreat(2000), check_matching, 3, great, ONE, 0, 1, value)
            self.assert_error(TooGreat(2000), check_matching, 3, ONE, great, 0, 1, value)
        two_thousand = ("pair", ("either", ("bag", 0), ("bag", 0)), ("list", 3, TEN))
        self.assertEqual(how_many(3, two_thousand), 2000)
        pairs = [(member, member) for member in reference.all_members(3, two_thousand)]
        self.assertIsNone(check_matching(3, two_thousand, two_thousand, 2, 1, pairs))

    def test_pairs_stay_as_they_are(self):
        pairs = matching(2, self.SORT, self.OTHER, 0, 1)
        before = list(pairs)
        check_matching(2, self.SORT, self.OTHER, 0, 1, pairs)
        self.assertEqual(pairs, before)

    def test_a_head_has_no_transfer_back(self):
        for head in heads_listed(2, self.SORT, 0, 1):
            self.assert_error(NoFree(1, 0), transfer, 2, self.SORT, head, 1, 0)
