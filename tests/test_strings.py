"""Strings and exchanges: promise [9]."""

from itertools import combinations, permutations

from unithouse.errors import BadIndex, BadMany, BadMember, BadName, BadSort, NoFree, SameName, TooGreat
from unithouse.members import content_of
from unithouse.readings import can_transfer, free_brackets, transfer
from unithouse.strings import (String, exchange, head_of, heads_listed, is_head, string_at, string_members,
                               string_place)

from tests import reference
from tests.raising import RaisingTest
from tests.samples import NONE, ODD_VALUES, ONE, SMALL, TEN, deep

LIST = ("list", 3, ONE)

WRONG_PLACES = (-1, True, False, None, "0", 0.0, (0,), 10 ** 30)


def string_by_steps(many, sort, member, low, high):
    """Return the members of a string, led back and then on by transfers one by one."""
    found = [member]
    while can_transfer(many, sort, found[0], high, low):
        found.insert(0, transfer(many, sort, found[0], high, low))
    while can_transfer(many, sort, found[-1], low, high):
        found.append(transfer(many, sort, found[-1], low, high))
    return tuple(found)


class ToldTest(RaisingTest):
    STRING = ((0, 0, 0), (1, 0, 0), (1, 1, 0), (1, 1, 1))

    def test_by_hand(self):
        for place, member in enumerate(self.STRING):
            for pair in ((0, 1), (1, 0)):
                self.assertEqual(string_place(2, LIST, member, *pair), (place, 3))
                self.assertIs(is_head(2, LIST, member, *pair), place == 0)
                self.assertEqual(head_of(2, LIST, member, *pair), self.STRING[0])
                self.assertEqual(string_members(2, LIST, member, *pair), self.STRING)
                self.assertEqual(exchange(2, LIST, member, *pair), self.STRING[3 - place])
                for other in range(4):
                    self.assertEqual(string_at(2, LIST, member, *pair, other), self.STRING[other])
        self.assertEqual(heads_listed(2, LIST, 0, 1), ((0, 0, 0), (0, 0, 1), (0, 1, 0)))
        self.assertEqual(string_members(2, LIST, (1, 0, 1), 1, 0), ((0, 0, 1), (1, 0, 1)))

    def test_strings_of_one_member(self):
        self.assertEqual(string_members(3, ONE, 2, 0, 1), (2,))
        self.assertEqual(string_place(3, ONE, 2, 0, 1), (0, 0))
        self.assertEqual(exchange(3, ONE, 2, 0, 1), 2)
        self.assertEqual(exchange(3, ONE, 2, 0, 2), 0)

    def test_heads_of_no_member(self):
        self.assertEqual(heads_listed(3, NONE, 0, 1), ())
        self.assertEqual(heads_listed(3, ("subset", 4), 2, 1), ())


class AllMembersTest(RaisingTest):
    def test_strings(self):
        for many, sort in SMALL:
            for low, high in combinations(range(many), 2):
                for member in reference.all_members(many, sort):
                    found = string_by_steps(many, sort, member, low, high)
                    place, length = found.index(member), len(found) - 1
                    self.assertEqual(string_members(many, sort, member, low, high), found)
                    self.assertEqual(string_members(many, sort, member, high, low), found)
                    self.assertEqual(string_place(many, sort, member, high, low), (place, length))
                    closing, opening = free_brackets(many, sort, member, low, high)
                    self.assertEqual((place, length), (len(closing), len(closing) + len(opening)))
                    self.assertEqual(head_of(many, sort, member, high, low), found[0])
                    self.assertIs(is_head(many, sort, member, high, low), place == 0)

    def test_places(self):
        for many, sort in SMALL:
            for low, high in combinations(range(many), 2):
                for member in reference.all_members(many, sort):
                    found = string_by_steps(many, sort, member, low, high)
                    for place, led in enumerate(found):
                        self.assertEqual(string_at(many, sort, member, high, low, place), led)
                    for value in (-1, len(found), True):
                        self.assert_error(BadIndex(value), string_at, many, sort, member, low, high, value)

    def test_all_strings_have_each_member_once(self):
        for many, sort in SMALL:
            for low, high in combinations(range(many), 2):
                heads = heads_listed(many, sort, low, high)
                self.assertEqual(heads, heads_listed(many, sort, high, low))
                self.assertEqual(list(heads), sorted(heads))
                found = [member for head in heads for member in string_members(many, sort, head, low, high)]
                self.assertEqual(sorted(found), reference.all_members(many, sort))
                for head in heads:
                    self.assert_error(NoFree(high, low), transfer, many, sort, head, high, low)

    def test_exchanges(self):
        for many, sort in SMALL:
            for name, other in permutations(range(many), 2):
                for member in reference.all_members(many, sort):
                    led = exchange(many, sort, member, name, other)
                    self.assertEqual(exchange(many, sort, led, other, name), member)
                    content = list(content_of(many, sort, member))
                    content[name], content[other] = content[other], content[name]
                    self.assertEqual(content_of(many, sort, led), tuple(content))
                    place, length = string_place(many, sort, member, name, other)
                    self.assertEqual(led, string_at(many, sort, member, name, other, length - place))


class StringTest(RaisingTest):
    def test_all(self):
        for many, sort in SMALL:
            for low, high in combinations(range(many), 2):
                for head in heads_listed(many, sort, low, high):
                    found = string_members(many, sort, head, low, high)
                    string = String(many, sort, found[len(found) // 2], high, low)
                    self.assertEqual((string.low, string.high), (low, high))
                    self.assertEqual((string.head, string.last), (found[0], found[-1]))
                    self.assertEqual(string.length, len(found) - 1)
                    self.assertEqual(len(string), len(found))
                    self.assertEqual(tuple(string), found)
                    for place, member in enumerate(found):
                        self.assertEqual(string.at(place), member)
                        self.assertEqual(string.place_of(member), place)
                        self.assertIn(member, string)
                        self.assertTrue(String(many, sort, member, low, high) == string)

    def test_other_members_are_not_in_it(self):
        string = String(2, LIST, (0, 0, 1), 0, 1)
        for member in reference.all_members(2, LIST):
            self.assertIs(member in string, member in ((0, 0, 1), (1, 0, 1)))
        for value in ((0, 0, 0), (1, 1, 0), (False, 0, 1), (0, 0, True), [0, 0, 1], (0, 0, 1.0), (0, 0, 2), ONE,
                      *ODD_VALUES):
            self.assertFalse(value in string)
            self.assert_error(BadMember(value), string.place_of, value)

    def test_true_is_no_name(self):
        string = String(2, ONE, 0, 0, 1)
        self.assertEqual(list(string), [0, 1])
        for value in (True, False, 1.0):
            self.assertFalse(value in string)
            self.assert_error(BadMember(value), string.place_of, value)

    def test_wrong_places(self):
        string = String(2, LIST, (0, 0, 1), 0, 1)
        for value in (2, *WRONG_PLACES):
            self.assert_error(BadIndex(value), string.at, value)

    def test_it_equals_only_the_same(self):
        string = String(3, LIST, (0, 0, 1), 0, 1)
        self.assertTrue(string == String(3, LIST, (1, 0, 1), 1, 0))
        self.assertFalse(string != String(3, LIST, (1, 0, 1), 1, 0))
        others = (
            String(2, LIST, (0, 0, 1), 0, 1),
            String(3, ("list", 3, ("either", ONE, ONE)), ((0, 0), (0, 0), (0, 1)), 0, 1),
            String(3, LIST, (0, 0, 0), 0, 1),
            String(3, LIST, (0, 0, 1), 0, 2),
            String(3, LIST, (0, 0, 1), 1, 2),
            tuple(string), list(string), (0, 0, 1), 0, None, "string",
        )
        for other in others:
            self.assertFalse(string == other)
            self.assertTrue(string != other)
            self.assertFalse(other == string)

    def test_strings_of_alike_members_of_another_sort(self):
        one, other = String(3, ("bag", 0), (), 0, 1), String(3, ("subset", 0), (), 0, 1)
        self.assertEqual(tuple(one), tuple(other))
        self.assertFalse(one == other)
        self.assertFalse(String(3, ONE, 2, 0, 1) == String(4, ONE, 2, 0, 1))
        self.assertFalse(String(4, ONE, 3, 0, 1) == String(4, ONE, 3, 0, 2))
        self.assertFalse(String(4, ONE, 3, 0, 2) == String(4, ONE, 3, 1, 2))

    def test_it_never_changes(self):
        string = String(2, ONE, 0, 0, 1)
        for name in ("low", "high", "head", "last", "length"):
            with self.assertRaises(AttributeError):
                setattr(string, name, 1)
        self.assertEqual(list(string), [0, 1])
        self.assertEqual(list(string), [0, 1])

    def test_a_deep_sort(self):
        sort = deep(10)
        member = (1, 0)
        string = String(3, sort, member, 0, 2)
        self.assertEqual(tuple(string), ((1, 0), (1, 2)))

    def test_methods_stand_in_the_class(self):
        for name in ("low", "high", "head", "last", "length", "at", "place_of", "__len__", "__iter__", "__contains__",
                     "__eq__", "__init__"):
            self.assertIn(name, vars(String))


class ErrorsTest(RaisingTest):
    CALLS = (string_place, is_head, head_of, string_members, exchange, String)

    def assert_errors(self, call, *last):
        self.assert_error(BadMany(1), call, 1, 5, 5, 5, 5, *last)
        self.assert_error(BadSort(()), call, 3, 5, 5, 5, 5, *last)
        self.assert_error(TooGreat(10), call, 3, deep(11), 5, 5, 5, *last)
        self.assert_error(BadMember(5), call, 3, ONE, 5, 5, 5, *last)
        self.assert_error(BadMember(True), call, 3, ONE, True, 5, 5, *last)
        for value in (-1, 3, True, False, None, "a"):
            self.assert_error(BadName(value), call, 3, ONE, 0, value, 7, *last)
            self.assert_error(BadName(value), call, 3, ONE, 0, 1, value, *last)
            self.assert_error(BadName(value), call, 3, ONE, 0, value, value, *last)
        self.assert_error(SameName(1), call, 3, ONE, 0, 1, 1, *last)

    def test_errors_in_their_order(self):
        for call in self.CALLS:
            self.assert_errors(call)
        self.assert_errors(string_at, -1)

    def test_wrong_places(self):
        for value in (4, *WRONG_PLACES):
            self.assert_error(BadIndex(value), string_at, 2, LIST, (0, 1, 1), 1, 0, value)

    def test_errors_of_heads_listed(self):
        great = ("list", 4, TEN)
        self.assert_error(BadMany(1), heads_listed, 1, 5, 5, 5)
        self.assert_error(BadSort(()), heads_listed, 3, 5, 5, 5)
        self.assert_error(BadName(3), heads_listed, 3, great, 3, -1)
        self.assert_error(BadName(-1), heads_listed, 3, great, 0, -1)
        self.assert_error(BadName(True), heads_listed, 3, great, 0, True)
        self.assert_error(SameName(2), heads_listed, 3, great, 2, 2)
        self.assert_error(TooGreat(2000), heads_listed, 3, great, 2, 1)
        two_thousand = ("pair", ("either", ("bag", 0), ("bag", 0)), ("list", 3, TEN))
        self.assertEqual(len(heads_listed(3, two_thousand, 2, 1)), 2000)
        self.assert_error(TooGreat(2000), heads_listed, 3, ("either", two_thousand, ("bag", 0)), 2, 1)
