"""Plain sorts, orders, lines, roots and kin: promises [18] to [22]."""

from itertools import permutations
from random import Random

from unithouse.errors import BadMany, BadMember, BadSort, BadWay, NoFree, TooGreat, Unlike
from unithouse.members import content_of
from unithouse.orders import (all_orders, carried_over, exchanged, is_plain, is_root, kin, line_of, lows_to, order_of,
                              ordered, root_counts, root_of, roots, way_back)
from unithouse.readings import can_transfer, transfer
from unithouse.strings import exchange

from tests import reference
from tests.raising import RaisingTest
from tests.samples import EMPTY, NONE, ODD_VALUES, ONE, SMALL, SMALL_PLAIN, TEN, balanced, deep

LIST = ("list", 3, ONE)
# No few members, but none is listed for the functions that take it.
GREAT = ("pair", ("list", 4, TEN), LIST)
TWO_THOUSAND = ("pair", ("either", EMPTY, EMPTY), ("list", 3, TEN))

# Each one is not plain, with the path of the first part that is not.
NOT_PLAIN = (
    (("family", 1, ONE), ()),
    (("heap", 0, ONE), ()),
    (("rounds", 1), ()),
    (("pair", ONE, ("rounds", 1)), (2,)),
    (("pair", ("family", 1, ONE), ("rounds", 1)), (1,)),
    (("either", ("list", 2, ("heap", 1, ONE)), ("family", 1, ONE)), (1, 2)),
    (("list", 0, ("either", ONE, ("pair", ONE, ("heap", 1, ONE)))), (2, 2, 2)),
)

WRONG_LOWS = (-1, 2, 3, True, False, None, "0", 0.0, (0,), [0])


class PlainTest(RaisingTest):
    def test_is_plain(self):
        for sort in (NONE, ONE, ("subset", 2), ("bag", 2), ("trees",), ("rooted",), ("either", ONE, ("trees",)),
                     ("pair", ("bag", 1), ("rooted",)), ("list", 2, ("either", ONE, NONE)), ("list", 0, ONE)):
            self.assertIs(is_plain(3, sort), True)
        for sort, _ in NOT_PLAIN:
            self.assertIs(is_plain(3, sort), False)
        self.assert_error(BadMany(1), is_plain, 1, 5)
        self.assert_error(BadSort((2,)), is_plain, 3, ("heap", 2, ("bag", 2)))

    def test_names_apart(self):
        for many, sort in ((4, ("list", 3, ONE)), (4, ("rooted",)), (4, ("pair", ("bag", 2), ("subset", 2)))):
            for member in reference.all_members(many, sort):
                for first, second, third, fourth in permutations(range(many)):
                    if not can_transfer(many, sort, member, first, second):
                        continue
                    led = transfer(many, sort, member, first, second)
                    both = can_transfer(many, sort, member, third, fourth)
                    self.assertIs(can_transfer(many, sort, led, third, fourth), both)
                    if both:
                        other = transfer(many, sort, member, third, fourth)
                        self.assertEqual(transfer(many, sort, led, third, fourth),
                                         transfer(many, sort, other, first, second))


class LinesTest(RaisingTest):
    def test_by_hand(self):
        told = (
            (3, ONE, 2, (2,)),
            (4, ("subset", 3), (0, 2, 3), (0, 2, 3)),
            (4, ("bag", 3), (0, 2, 2), (2, 2, 0)),
            (3, ("either", ONE, ("bag", 2)), (0, 1), (1,)),
            (3, ("either", ONE, ("bag", 2)), (1, (0, 1)), (1, 0)),
            (3, ("pair", ("bag", 2), ("subset", 2)), ((0, 1), (0, 1)), (1, 0, 0, 1)),
            (3, ("list", 2, ("bag", 2)), ((0, 2), (0, 1)), (2, 0, 1, 0)),
            (4, ("trees",), ((0, 3), (1, 3), (2, 3)), (3, 3)),
            (3, ("rooted",), (0, ((0, 1), (1, 2))), (1, 0)),
            (2, ("trees",), ((0, 1),), ()),
            (3, ("list", 0, NONE), (), ()),
        )
        for many, sort, member, line in told:
            self.assertEqual(line_of(many, sort, member), line)

    def test_transfers_beside_those_of_the_line(self):
        for many, sort in SMALL_PLAIN:
            for member in reference.all_members(many, sort):
                line = line_of(many, sort, member)
                ones = ("list", len(line), ONE)
                for low in range(many - 1):
                    for giver, taker in ((low, low + 1), (low + 1, low)):
                        there = can_transfer(many, ones, line, giver, taker)
                        self.assertIs(can_transfer(many, sort, member, giver, taker), there)
                        if there:
                            led = transfer(many, sort, member, giver, taker)
                            self.assertEqual(line_of(many, sort, led), transfer(many, ones, line, giver, taker))


class RowsTest(RaisingTest):
    def test_order_of_by_hand(self):
        self.assertEqual(order_of(3, ()), (0, 1, 2))
        self.assertEqual(order_of(3, (0,)), (1, 0, 2))
        # 0 goes to 1, then on to 2.
        self.assertEqual(order_of(3, (0, 1)), (2, 0, 1))
        self.assertEqual(order_of(3, (1, 0)), (1, 2, 0))
        self.assertEqual(order_of(3, (0, 1, 0)), (2, 1, 0))
        self.assertEqual(order_of(4, (2, 2)), (0, 1, 2, 3))
        self.assertEqual(order_of(2, (0,) * 59), (1, 0))

    def test_lows_to_all_orders(self):
        for many in (2, 3, 4, 5):
            for order in permutations(range(many)):
                lows = lows_to(many, order)
                self.assertIsInstance(lows, tuple)
                self.assertEqual(order_of(many, lows), order)
                falls = sum(order[one] > order[other] for other in range(many) for one in range(other))
                self.assertEqual(len(lows), falls)

    def test_wrong_rows(self):
        for call in (lambda lows: order_of(3, lows), lambda lows: exchanged(3, ONE, 0, lows)):
            for value in ([0], "0", 0, None, True, {}, [5] * 61):
                self.assert_error(BadWay(0), call, value)
            call((0,) * 60)
            for row in ((0,) * 61, (7,) * 61, (None,) * 100):
                self.assert_error(BadWay(60), call, row)
            for value in WRONG_LOWS:
                for place in (0, 1, 5, 59):
                    row = (1,) * place + (value,) + (0,) * (59 - place)
                    self.assert_error(BadWay(place), call, row)
                self.assert_error(BadWay(1), call, (0, value, value))
        self.assert_error(BadWay(0), order_of, 2, (1,))
        self.assertEqual(order_of(5, (3,)), (0, 1, 2, 4, 3))

    def test_wrong_orders(self):
        for call in (lambda order: lows_to(3, order), lambda order: ordered(3, ONE, 0, order)):
            for value in ((), (0, 1), (0, 1, 2, 2), (5, 5), [0, 1, 2], "012", None, 0, True):
                self.assert_error(BadWay(0), call, value)
            for value in (-1, 3, True, False, None, "0", 0.0, (0,)):
                for place in range(3):
                    order = tuple(value if at == place else at for at in range(3))
                    self.assert_error(BadWay(place), call, order)
            self.assert_error(BadWay(1), call, (0, 0, 1))
            self.assert_error(BadWay(2), call, (0, 2, 0))
            self.assert_error(BadWay(2), call, (0, 2, 2))
            self.assert_error(BadWay(1), call, (1, 1, 5))
            self.assert_error(BadWay(1), call, (1, 5, 1))

    def test_errors_ahead_of_the_rows(self):
        for call in (order_of, lows_to):
            self.assert_error(BadMany(6), call, 6, None)
        self.assert_error(BadMany(1), exchanged, 1, 5, 5, 5)
        self.assert_error(BadSort(()), exchanged, 3, 5, 5, 5)
        self.assert_error(BadMember(5), exchanged, 3, ONE, 5, 5)
        self.assert_error(BadMember(5), exchanged, 3, ("rounds", 1), 5, 5)
        self.assert_error(BadWay(0), exchanged, 3, ONE, 0, 5)
        self.assert_error(BadWay(0), ordered, 3, ONE, 0, 5)

    def test_exchanged(self):
        for many, sort in SMALL:
            rows = ((), (0,), (many - 2, 0), (0, 0, many - 2, 0), tuple(range(many - 1)) * 2)
            for member in reference.all_members(many, sort):
                for row in rows:
                    led = member
                    for low in row:
                        led = exchange(many, sort, led, low, low + 1)
                    self.assertEqual(exchanged(many, sort, member, row), led)

    def test_the_content_goes_by_the_order(self):
        for many, sort in SMALL:
            row = tuple(range(many - 1)) + (0,)
            order = order_of(many, row)
            for member in reference.all_members(many, sort):
                content = content_of(many, sort, exchanged(many, sort, member, row))
                self.assertEqual(tuple(content[order[name]] for name in range(many)),
                                 content_of(many, sort, member))


class OrdersTest(RaisingTest):
    def test_all_orders_beside_rows_of_exchanges(self):
        for many, sort in SMALL_PLAIN:
            for member in reference.all_members(many, sort)[::7]:
                found = all_orders(many, sort, member)
                self.assertEqual([order for order, _ in found], list(permutations(range(many))))
                for order, led in found:
                    self.assertEqual(led, exchanged(many, sort, member, lows_to(many, order)))
                    self.assertEqual(led, ordered(many, sort, member, order))

    def test_any_row_of_an_order(self):
        random = Random(1)
        for many, sort in SMALL_PLAIN:
            for member in reference.all_members(many, sort)[::5]:
                row = tuple(random.randrange(many - 1) for _ in range(random.randrange(12)))
                self.assertEqual(exchanged(many, sort, member, row),
                                 ordered(many, sort, member, order_of(many, row)))

    def test_by_hand(self):
        self.assertEqual(all_orders(2, ("bag", 3), (0, 0, 1)), (((0, 1), (0, 0, 1)), ((1, 0), (0, 1, 1))))
        self.assertEqual(ordered(3, ONE, 0, (2, 0, 1)), 2)
        self.assertEqual(ordered(3, ONE, 1, (2, 0, 1)), 0)
        self.assertEqual(dict(all_orders(3, ONE, 1))[(2, 0, 1)], 0)


class RootsTest(RaisingTest):
    def led_back(self, many, sort, member, random):
        """Return where transfers back end, done in any order."""
        while True:
            lows = [low for low in range(many - 1) if can_transfer(many, sort, member, low + 1, low)]
            if not lows:
                return member
            low = random.choice(lows)
            member = transfer(many, sort, member, low + 1, low)

    def test_roots_of_members(self):
        random = Random(2)
        for many, sort in SMALL_PLAIN:
            for member in reference.all_members(many, sort):
                root = self.led_back(many, sort, member, random)
                self.assertEqual(root_of(many, sort, member), root)
                self.assertIs(is_root(many, sort, member), root == member)
                self.assertIs(is_root(many, sort, root), True)
                content = content_of(many, sort, root)
                self.assertEqual(content, tuple(sorted(content, reverse=True)))

    def test_way_back(self):
        for many, sort in SMALL_PLAIN:
            for member in reference.all_members(many, sort):
                led = member
                lows = way_back(many, sort, member)
                self.assertIsInstance(lows, tuple)
                for low in lows:
                    for less in range(low):
                        self.assertFalse(can_transfer(many, sort, led, less + 1, less))
                    led = transfer(many, sort, led, low + 1, low)
                self.assertEqual(led, root_of(many, sort, member))
                self.assertTrue(is_root(many, sort, led))

    def test_by_hand(self):
        self.assertEqual(way_back(3, ONE, 2), (1, 0))
        self.assertEqual(root_of(3, ONE, 2), 0)
        self.assertEqual(way_back(3, ("bag", 2), (1, 2)), (0, 1, 0))
        self.assertEqual(kin(3, ("list", 2, ONE), (1, 2)), ((0, 1), (0, 2), (1, 2)))
        self.assertEqual(roots(3, ("list", 2, ONE)), ((0, 0), (0, 1)))
        self.assertEqual(root_counts(3, LIST), {(1, 1, 1): 1, (2, 1, 0): 2, (3, 0, 0): 1})
        self.assertEqual(root_counts(2, NONE), {})
        self.assertEqual(roots(2, NONE), ())

    def test_kin_roots_and_their_counts_beside_a_listing(self):
        for many, sort in SMALL_PLAIN:
            by_root = {}
            for member in reference.all_members(many, sort):
                by_root.setdefault(root_of(many, sort, member), []).append(member)
            self.assertEqual(roots(many, sort), tuple(sorted(by_root)))
            for members in by_root.values():
                for member in members:
                    self.assertEqual(kin(many, sort, member), tuple(members))
            counts = {}
            for root in by_root:
                content = content_of(many, sort, root)
                counts[content] = counts.get(content, 0) + 1
            found = root_counts(many, sort)
            self.assertEqual(list(found.items()), sorted(counts.items()))
            found.clear()
            self.assertEqual(root_counts(many, sort), counts)

    def test_kin_in_an_either_deep_down(self):
        sort = ("pair", ("list", 2, deep(8)), ("bag", 0))
        member = (((1, 0), (0, (1, 1))), ())
        self.assertEqual(root_of(2, sort, member), (((1, 0), (0, (1, 1))), ()))
        self.assertEqual(kin(2, sort, member), (member,))
        lowest = balanced(ONE, 2)
        for _ in range(8):
            lowest = ("either", lowest, NONE)
        member = (1, 1)
        for _ in range(8):
            member = (0, member)
        self.assertEqual(len(kin(3, lowest, member)), 3)

    def test_two_thousand_and_more(self):
        one_more = ("either", TWO_THOUSAND, EMPTY)
        self.assertEqual(len(roots(3, TWO_THOUSAND)), 2000)
        self.assertEqual(root_counts(3, TWO_THOUSAND), {(0, 0, 0): 2000})
        self.assert_error(TooGreat(2000), roots, 3, one_more)
        self.assert_error(TooGreat(2000), root_counts, 3, one_more)
        self.assert_error(TooGreat(2000), kin, 3, one_more, (1, ()))
        member = reference.all_members(3, TWO_THOUSAND)[1234]
        self.assertEqual(kin(3, TWO_THOUSAND, member), (member,))


class AlikeTest(RaisingTest):
    def counts_of_members(self, many, sort):
        contents = [content_of(many, sort, member) for member in reference.all_members(many, sort)]
        return {content: contents.count(content) for content in contents}

    def test_alike_members_and_alike_roots(self):
        alike = (LIST, ("pair", ("list", 2, ONE), ONE), ("pair", ("either", ("bag", 2), ("subset", 2)), ONE))
        others = (("pair", ("bag", 2), ONE), ("rooted",), ("bag", 3), ("either", ("bag", 3), ("subset", 3)))
        for one in alike + others:
            for other in alike + others:
                same = self.counts_of_members(3, one) == self.counts_of_members(3, other)
                self.assertIs(root_counts(3, one) == root_counts(3, other), same)
                if one in alike:
                    self.assertIs(same, other in alike)


class CarriedOverTest(RaisingTest):
    def led_on(self, many, sort, root, lows):
        led = root
        for low in reversed(lows):
            led = transfer(many, sort, led, low, low + 1)
        return led

    def test_beside_the_same_transfers(self):
        sorts = ((3, LIST), (3, ("pair", ("bag", 2), ONE)), (3, ("pair", ("subset", 2), ONE)), (3, ("rooted",)),
                 (3, ("list", 2, ONE)), (3, ("either", ("bag", 2), ("list", 2, ONE))))
        carried = 0
        for many, sort in sorts:
            for member in reference.all_members(many, sort):
                lows, root = way_back(many, sort, member), root_of(many, sort, member)
                content = content_of(many, sort, root)
                for _, other in sorts:
                    for other_root in roots(many, other):
                        if content_of(many, other, other_root) != content:
                            self.assert_error(Unlike(content), carried_over, many, sort, member, other, other_root)
                            continue
                        led = carried_over(many, sort, member, other, other_root)
                        self.assertEqual(led, self.led_on(many, other, other_root, lows))
                        self.assertEqual(content_of(many, other, led), content_of(many, sort, member))
                        self.assertEqual(carried_over(many, other, led, sort, root), member)
                        carried += 1
        self.assertGreater(carried, 100)

    def test_transfers_and_exchanges_go_along(self):
        sort, other = LIST, ("pair", ("bag", 2), ONE)
        for member in kin(3, sort, (0, 1, 0)):
            there = carried_over(3, sort, member, other, ((0, 0), 1))
            for low in range(2):
                self.assertEqual(carried_over(3, sort, exchange(3, sort, member, low, low + 1), other, ((0, 0), 1)),
                                 exchange(3, other, there, low, low + 1))
                for giver, taker in ((low, low + 1), (low + 1, low)):
                    if can_transfer(3, sort, member, giver, taker):
                        led = transfer(3, sort, member, giver, taker)
                        self.assertEqual(carried_over(3, sort, led, other, ((0, 0), 1)),
                                         transfer(3, other, there, giver, taker))
                    else:
                        self.assert_error(NoFree(giver, taker), transfer, 3, other, there, giver, taker)

    def test_of_great_sorts(self):
        first = reference.all_members(3, ("list", 3, TEN))[777]
        great = ("pair", ("list", 3, TEN), ("pair", ("list", 3, TEN), LIST))
        member = (first, (first, (2, 0, 0)))
        self.assertEqual(way_back(3, great, member), (1, 0))
        self.assertEqual(carried_over(3, great, member, LIST, (0, 0, 0)), (2, 0, 0))
        self.assertEqual(carried_over(3, LIST, (2, 0, 0), great, (first, (first, (0, 0, 0)))),
                         (first, (first, (2, 0, 0))))

    def test_errors_in_their_order(self):
        self.assert_error(BadMany(1), carried_over, 1, 5, 5, 5, 5)
        self.assert_error(BadSort((1,)), carried_over, 3, ("pair", 5, ONE), 5, 5, 5)
        self.assert_error(BadSort((2,)), carried_over, 3, ("pair", ONE, ("rounds", 1)), 5, 5, 5)
        self.assert_error(BadMember(5), carried_over, 3, ONE, 5, 5, 5)
        self.assert_error(BadSort(()), carried_over, 3, ONE, 0, 5, 5)
        self.assert_error(TooGreat(12), carried_over, 3, ONE, 0, ("list", 2, ("bag", 12)), 5)
        self.assert_error(BadSort(()), carried_over, 3, ONE, 0, ("heap", 1, ONE), 5)
        self.assert_error(BadSort((2,)), carried_over, 3, ONE, 0, ("list", 1, ("heap", 1, ONE)), ((0,),))
        for value in (3, True, None, (0,)):
            self.assert_error(BadMember(value), carried_over, 3, ONE, 0, ONE, value)
        self.assert_error(BadMember(1), carried_over, 3, ONE, 0, ONE, 1)
        self.assert_error(BadMember((0, 2)), carried_over, 3, ONE, 0, ("bag", 2), (0, 2))
        self.assert_error(Unlike((1, 0, 0)), carried_over, 3, ONE, 2, ("bag", 2), (0, 0))


class ErrorsTest(RaisingTest):
    MEMBER_CALLS = (line_of, all_orders, is_root, root_of, way_back, kin)

    def test_of_a_member(self):
        for call in self.MEMBER_CALLS:
            self.assert_errors(call)
        self.assert_errors(lambda many, sort, member: ordered(many, sort, member, None))

    def assert_errors(self, call):
        self.assert_error(BadMany(6), call, 6, 5, 5)
        self.assert_error(BadSort(()), call, 3, 5, 5)
        self.assert_error(TooGreat(10), call, 3, deep(11), 5)
        self.assert_error(BadSort((2, 2)), call, 3, ("pair", ("rounds", 1), ("heap", 1, ("trees",))), 5)
        for sort, path in NOT_PLAIN:
            self.assert_error(BadSort(path), call, 3, sort, 5)
        for value in (3, *ODD_VALUES):
            self.assert_error(BadMember(value), call, 3, ONE, value)
            self.assert_error(BadMember(value), call, 3, GREAT, value)

    def test_of_a_sort(self):
        for call in (roots, root_counts):
            self.assert_error(BadMany(6), call, 6, 5)
            self.assert_error(BadSort(()), call, 3, 5)
            for sort, path in NOT_PLAIN:
                self.assert_error(BadSort(path), call, 3, sort)
            self.assert_error(BadSort((2,)), call, 3, ("pair", GREAT, ("rounds", 1)))
            self.assert_error(TooGreat(2000), call, 3, GREAT)

    def test_sorts_that_are_not_listed_may_be_great(self):
        member = (tuple(reference.all_members(3, TEN)[:4]), (2, 0, 1))
        self.assertEqual(line_of(3, GREAT, member), (2, 0, 1))
        self.assertIs(is_root(3, GREAT, member), False)
        self.assertEqual(way_back(3, GREAT, member), (1, 0))
        self.assertEqual(root_of(3, GREAT, member), (member[0], (0, 0, 1)))
        self.assertEqual(len(all_orders(3, GREAT, member)), 6)
        self.assert_error(TooGreat(2000), kin, 3, GREAT, member)
