"""Readings and transfers: promises [7], [8]."""

from itertools import permutations

from unithouse.errors import BadMany, BadMember, BadName, BadSort, NoFree, SameName
from unithouse.listing import member_at
from unithouse.members import content_of, is_member
from unithouse.readings import can_transfer, free_brackets, reading, transfer, transfers
from unithouse.sorts import how_many

from tests import reference
from tests.raising import RaisingTest
from tests.samples import GREATEST, NONE, ONE, SMALL, TEN, TWO_KINDS

PAIRS = ("subset", 2)

# many, sort, member, low, high, reading, transfer from low to high, transfer from high to low; all by hand
TOLD = (
    (3, ONE, 0, 0, 1, "(", 1, None),
    (3, ONE, 1, 0, 1, ")", None, 0),
    (3, ONE, 2, 0, 1, "", None, None),
    (4, PAIRS, (0, 2), 0, 1, "(", (1, 2), None),
    (4, PAIRS, (0, 2), 0, 3, "(", (2, 3), None),
    (4, PAIRS, (1, 2), 0, 1, ")", None, (0, 2)),
    (4, PAIRS, (0, 1), 0, 1, "", None, None),
    (4, PAIRS, (2, 3), 0, 1, "", None, None),
    (3, ("bag", 4), (0, 0, 1, 2), 0, 1, ")((", (0, 1, 1, 2), (0, 0, 0, 2)),
    (3, ("bag", 4), (0, 0, 1, 2), 0, 2, ")((", (0, 1, 2, 2), (0, 0, 0, 1)),
    (3, ("bag", 2), (2, 2), 0, 1, "", None, None),
    (3, TWO_KINDS, (1, (0, 2)), 0, 1, "(", (1, (1, 2)), None),
    (3, TWO_KINDS, (0, 1), 0, 1, ")", None, (0, 0)),
    (3, ("pair", ONE, ("bag", 2)), (0, (1, 1)), 0, 1, "())", None, (0, (0, 1))),
    (3, ("pair", ("bag", 2), ONE), ((0, 1), 0), 0, 1, ")((", ((1, 1), 0), ((0, 0), 0)),
    (3, ("list", 4, ONE), (1, 0, 2, 0), 0, 1, ")((", (1, 1, 2, 0), (0, 0, 2, 0)),
    (3, ("list", 4, ONE), (0, 1, 1, 0), 0, 1, "())(", (0, 1, 1, 1), (0, 1, 0, 0)),
    # T is (0, 2), then (0, 3); their U are (1, 2) and (1, 3).
    (4, ("family", 2, PAIRS), ((0, 2), (1, 3)), 0, 1, "()", None, None),
    (4, ("family", 2, PAIRS), ((0, 3), (1, 2)), 0, 1, ")(", ((1, 2), (1, 3)), ((0, 2), (0, 3))),
    (4, ("family", 2, PAIRS), ((0, 2), (1, 2)), 0, 1, "", None, None),
    (4, ("family", 3, PAIRS), ((0, 1), (0, 2), (0, 3)), 0, 1, "((", ((0, 1), (0, 3), (1, 2)), None),
    # T is (0, 1), with the U (1, 2), for the names 0 and 2.
    (3, ("family", 2, PAIRS), ((0, 1), (0, 2)), 0, 2, "(", ((0, 2), (1, 2)), None),
    # The names of an either's left side go ahead of those of its right side.
    (3, ("family", 2, ("either", ONE, ONE)), ((0, 1), (1, 0)), 0, 1, ")(", ((0, 1), (1, 1)), ((0, 0), (1, 0))),
    (3, ("heap", 3, ONE), (0, 1, 1), 0, 1, "))(", (1, 1, 1), (0, 0, 1)),
    (4, ("heap", 3, PAIRS), ((0, 2), (0, 2), (1, 2)), 0, 1, ")((", ((0, 2), (1, 2), (1, 2)), ((0, 2), (0, 2), (0, 2))),
    (4, ("heap", 4, PAIRS), ((0, 2), (0, 3), (1, 2), (1, 2)), 0, 1, "))((",
     ((0, 3), (1, 2), (1, 2), (1, 2)), ((0, 2), (0, 2), (0, 3), (1, 2))),
    (4, ("heap", 4, PAIRS), ((0, 2), (1, 3), (1, 3), (2, 3)), 0, 1, "())", None, ((0, 2), (0, 3), (1, 3), (2, 3))),
    (2, ("rounds", 1), ((0,),), 0, 1, "(", ((1,),), None),
    (2, ("rounds", 2), ((0, 1),), 0, 1, "()", None, None),
    (2, ("rounds", 2), ((1, 0),), 0, 1, ")(", ((1, 1),), ((0, 0),)),
    # Meetings: 0 with 1, 0 with 2, 1 with 2.
    (3, ("rounds", 1), ((0,), (0,), (2,)), 0, 1, "((", ((1,), (0,), (2,)), None),
    (3, ("rounds", 1), ((0,), (2,), (1,)), 0, 1, "()", None, None),
    (3, ("rounds", 1), ((1,), (0,), (2,)), 0, 1, ")(", ((1,), (2,), (1,)), ((0,), (0,), (2,))),
    (3, ("rounds", 1), ((0,), (0,), (1,)), 0, 1, "(", ((1,), (0,), (1,)), None),
    # For 1 and 2 the other name is 0: it met them in the first and the second pair.
    (3, ("rounds", 1), ((1,), (0,), (1,)), 1, 2, "((", ((1,), (0,), (2,)), None),
    (3, ("rounds", 1), ((0,), (2,), (1,)), 1, 2, "()", None, None),
    (3, ("rounds", 2), ((0, 1), (0, 2), (2, 1)), 0, 1, "()()", None, None),
    (3, ("rounds", 2), ((1, 1), (2, 0), (1, 2)), 0, 1, ")))(",
     ((1, 1), (2, 2), (1, 1)), ((1, 1), (0, 0), (2, 2))),
    # The code (3, 3) becomes (3, 0).
    (4, ("trees",), ((0, 3), (1, 3), (2, 3)), 0, 3, "))", None, ((0, 2), (0, 3), (1, 3))),
    (4, ("trees",), ((0, 1), (1, 2), (2, 3)), 1, 2, "()", None, None),
    (3, ("rooted",), (0, ((0, 1), (1, 2))), 0, 1, ")(", (1, ((0, 1), (1, 2))), (0, ((0, 1), (0, 2)))),
    (3, ("rooted",), (0, ((0, 1), (1, 2))), 1, 2, "(", (0, ((0, 2), (1, 2))), None),
)


class ToldTest(RaisingTest):
    def test_readings_by_hand(self):
        for many, sort, member, low, high, text, _, _ in TOLD:
            self.assertEqual(reading(many, sort, member, low, high), text, (sort, member))
            self.assertEqual(reading(many, sort, member, high, low), text, (sort, member))

    def test_transfers_by_hand(self):
        for many, sort, member, low, high, _, up, down in TOLD:
            for giver, taker, led in ((low, high, up), (high, low, down)):
                self.assertIs(can_transfer(many, sort, member, giver, taker), led is not None)
                if led is None:
                    self.assert_error(NoFree(giver, taker), transfer, many, sort, member, giver, taker)
                else:
                    self.assertEqual(transfer(many, sort, member, giver, taker), led, (sort, member))

    def test_free_brackets(self):
        told = (
            ((1, 1, 0, 0), ((0, 1), (2, 3))), ((0, 1, 0, 1), ((), ())), ((0, 0, 1, 1), ((), ())),
            ((1, 0, 1, 0), ((0,), (3,))), ((0, 1, 1, 0), ((2,), (3,))), ((0, 0, 0, 1), ((), (0, 1))),
            ((2, 2, 2, 2), ((), ())), ((0, 2, 0, 2), ((), (0, 1))), ((2, 1, 2, 1), ((0, 1), ())),
        )
        for member, free in told:
            self.assertEqual(free_brackets(3, ("list", 4, ONE), member, 0, 1), free)
            self.assertEqual(free_brackets(3, ("list", 4, ONE), member, 1, 0), free)

    def test_transfers_of_a_member(self):
        self.assertEqual(transfers(3, ONE, 1), ((1, 0, 0), (1, 2, 2)))
        self.assertEqual(transfers(3, ("list", 0, GREATEST), ()), ())
        self.assertEqual(transfers(3, ("bag", 2), (0, 2)),
                         ((0, 1, (1, 2)), (0, 2, (2, 2)), (2, 0, (0, 0)), (2, 1, (0, 1))))

    def test_great_sorts(self):
        sort = ("pair", ("list", 10, TEN), ("list", 12, ONE))
        self.assertEqual(how_many(3, sort), 10 ** 10 * 3 ** 12)
        first = member_at(3, ("list", 10, TEN), 123456789)
        self.assertEqual(reading(3, sort, (first, (0, 1) * 6), 0, 2), "((((((")
        self.assertEqual(transfer(3, sort, (first, (0, 1) * 6), 0, 2), (first, (2, 1) + (0, 1) * 5))


class AllMembersTest(RaisingTest):
    def test_readings_beside_the_reference(self):
        for many, sort in SMALL:
            for member in reference.all_members(many, sort):
                for name, other in permutations(range(many), 2):
                    text = reference.reading(many, sort, member, min(name, other), max(name, other))
                    self.assertEqual(reading(many, sort, member, name, other), text)
                    free = reference.free(text)
                    self.assertEqual(free_brackets(many, sort, member, name, other), (tuple(free[0]), tuple(free[1])))

    def test_transfers_beside_the_reference(self):
        for many, sort in SMALL:
            for member in reference.all_members(many, sort):
                found = []
                for giver, taker in permutations(range(many), 2):
                    led = reference.transfer(many, sort, member, giver, taker)
                    self.assertIs(can_transfer(many, sort, member, giver, taker), led is not None)
                    if led is None:
                        self.assert_error(NoFree(giver, taker), transfer, many, sort, member, giver, taker)
                    else:
                        self.assertEqual(transfer(many, sort, member, giver, taker), led)
                        found.append((giver, taker, led))
                self.assertEqual(transfers(many, sort, member), tuple(found))

    def test_facts(self):
        for many, sort in SMALL:
            led_to = {}
            for member in reference.all_members(many, sort):
                content = content_of(many, sort, member)
                triples = transfers(many, sort, member)
                for giver, taker, led in triples:
                    self.assertTrue(is_member(many, sort, led))
                    moved = list(content)
                    moved[giver] -= 1
                    moved[taker] += 1
                    self.assertEqual(content_of(many, sort, led), tuple(moved))
                    self.assertEqual(transfer(many, sort, led, taker, giver), member)
                    self.assertNotIn((giver, taker, led), led_to)
                    led_to[giver, taker, led] = member
                there = [(giver, taker) for giver, taker, _ in triples]
                for giver, taker in permutations(range(many), 2):
                    if content[giver] > content[taker]:
                        self.assertIn((giver, taker), there)


class ErrorsTest(RaisingTest):
    CALLS = (reading, free_brackets, can_transfer, transfer)

    def test_the_sort_and_the_member_go_ahead(self):
        for call in self.CALLS:
            self.assert_error(BadMany(1), call, 1, 5, 5, 5, 5)
            self.assert_error(BadSort(()), call, 3, 5, 5, 5, 5)
            self.assert_error(BadSort((2,)), call, 3, ("heap", 1, ("bag", 1)), 5, 5, 5)
            self.assert_error(BadMember(5), call, 3, ONE, 5, 5, 5)
            self.assert_error(BadMember(True), call, 3, ONE, True, 0, 1)
            self.assert_error(BadMember(()), call, 3, NONE, (), 0, 1)
        self.assert_error(BadMany(1), transfers, 1, 5, 5)
        self.assert_error(BadSort(()), transfers, 3, 5, 5)
        self.assert_error(BadMember(5), transfers, 3, ONE, 5)

    def test_names(self):
        for call in self.CALLS:
            for value in (-1, 3, True, False, None, "a"):
                self.assert_error(BadName(value), call, 3, ONE, 0, value, 1)
                self.assert_error(BadName(value), call, 3, ONE, 0, value, 7)
                self.assert_error(BadName(value), call, 3, ONE, 0, 1, value)
                self.assert_error(BadName(value), call, 3, ONE, 0, value, value)
            self.assert_error(SameName(1), call, 3, ONE, 0, 1, 1)

    def test_no_free_tells_the_names_as_given(self):
        self.assert_error(NoFree(2, 0), transfer, 3, ONE, 1, 2, 0)
        self.assert_error(NoFree(0, 2), transfer, 3, ONE, 1, 0, 2)
        self.assert_error(NoFree(2, 1), transfer, 3, ONE, 1, giver=2, taker=1)
