"""Ways of deeds and members along them: promises [43] to [45]."""

from collections import deque
from itertools import permutations, product

from unithouse.counts import counts
from unithouse.errors import (BadContent, BadMany, BadMember, BadSort, BadStep, BadTotal, BadWay, NoFree, TooGreat,
                              Unlike)
from unithouse.evenness import is_evener
from unithouse.listing import member_at, members
from unithouse.members import content_of
from unithouse.readings import transfer
from unithouse.sorts import how_many
from unithouse.strings import exchange
from unithouse.ways import arisen, fresh, is_way, led, origin, rows_on, units, way_over, way_to

from tests import reference
from tests.raising import RaisingTest
from tests.samples import GREAT, GREATEST, NONE, ODD_VALUES, ONE, SMALL, TEN, deep

LIST = ("list", 3, ONE)
TRANSFER, EXCHANGE = ("transfer", 0, 1), ("exchange", 0, 1)

NO_DEEDS = (None, 5, "transfer", (), ("transfer",), ("transfer", 0), ("transfer", 0, 1, 2), ["transfer", 0, 1],
            ("transfer", 0, 0), ("exchange", 1, 1), ("transfer", 0, 3), ("transfer", -1, 0), ("exchange", 0, True),
            ("transfer", False, 1), ("swap", 0, 1), (0, "transfer", 1), ("transfer", 0, None), ("exchange", 0, 1.0),
            (("transfer",), 0, 1), ([], 0, 1), ("Transfer", 0, 1), ("transfer", (0,), 1))
NO_WAYS = (None, 5, "", [], [TRANSFER], {}, TRANSFER[0], True)


def contents(many, most):
    """Return the list of all contents whose numbers are at most so great."""
    return list(product(range(most + 1), repeat=many))


def rows_by_hand(start, way):
    """Return the list of the rows of a way, None where a transfer is not let."""
    rows = [list(start)]
    for word, one, other in way:
        row = list(rows[-1])
        if word == "exchange":
            row[one], row[other] = row[other], row[one]
        elif row[one] > row[other]:
            row[one] -= 1
            row[other] += 1
        else:
            return None
        rows.append(row)
    return [tuple(row) for row in rows]


def all_ways(many, start, size):
    """Return the list of all ways of so many deeds from a row, a deed with its names in either order."""
    found = [()]
    for _ in range(size):
        found = [way + ((word, one, other),) for way in found for word in ("transfer", "exchange")
                 for one, other in permutations(range(many), 2)]
        found = [way for way in found if rows_by_hand(start, way)]
    return found


def fewest_transfers(many, start):
    """Return a dict: for each row that ways lead to from a row, the fewest transfers with which they do."""
    found, waiting = {start: 0}, deque([start])
    while waiting:
        row = waiting.popleft()
        for one, other in permutations(range(many), 2):
            for word in ("exchange", "transfer"):
                rows = rows_by_hand(row, [(word, one, other)])
                cost = found[row] + (word == "transfer")
                if rows and cost < found.get(rows[-1], 10 ** 9):
                    found[rows[-1]] = cost
                    if word == "exchange":
                        waiting.appendleft(rows[-1])
                    else:
                        waiting.append(rows[-1])
    return found


def led_by_hand(many, sort, member, way):
    """Return the list of the members to which the deeds lead, one by one."""
    found = [member]
    for word, one, other in way:
        step = transfer if word == "transfer" else exchange
        found.append(step(many, sort, found[-1], one, other))
    return found


def before_by_hand(many, sort, member, deed):
    """Return the member that a deed leads to a member, None if there is none."""
    word, one, other = deed
    if word == "exchange":
        return exchange(many, sort, member, one, other)
    try:
        return transfer(many, sort, member, other, one)
    except NoFree:
        return None


# Ways with what a way may have: transfers and exchanges, names in either order, three names.
WAYS = (
    (3, LIST, (3, 0, 0), (TRANSFER,)),
    (3, LIST, (3, 0, 0), (TRANSFER, ("transfer", 0, 2))),
    (3, LIST, (0, 0, 3), (("transfer", 2, 0), ("exchange", 1, 0), ("transfer", 2, 0))),
    (3, LIST, (0, 3, 0), (("exchange", 2, 1), ("exchange", 0, 2))),
    (3, LIST, (1, 1, 1), ()),
    (3, LIST, (2, 1, 0), (("transfer", 0, 2),)),
    (3, LIST, (2, 1, 0), (TRANSFER, EXCHANGE, TRANSFER)),
    (2, ("list", 4, ONE), (4, 0), (TRANSFER, TRANSFER)),
    (2, ("list", 4, ONE), (0, 4), (("transfer", 1, 0), EXCHANGE, ("transfer", 0, 1))),
    (3, ("bag", 3), (3, 0, 0), (TRANSFER, ("transfer", 0, 2))),
    (3, ("subset", 2), (1, 1, 0), (("transfer", 1, 2), EXCHANGE)),
    (3, ("subset", 2), (2, 0, 0), (TRANSFER,)),
    (4, ("family", 2, ("subset", 2)), (2, 2, 0, 0), (("transfer", 0, 2), ("transfer", 1, 3))),
    (4, ("family", 2, ("subset", 2)), (2, 1, 1, 0), (("transfer", 0, 3), ("exchange", 3, 1))),
    (3, ("heap", 2, ("either", ONE, ("subset", 2))), (2, 2, 0), (("transfer", 0, 2), ("exchange", 0, 1))),
    (3, ("heap", 3, ONE), (0, 3, 0), (("transfer", 1, 0), ("transfer", 1, 2))),
    (3, ("rounds", 1), (2, 1, 0), (("transfer", 0, 2),)),
    (3, ("rounds", 2), (4, 2, 0), (("transfer", 0, 2), ("exchange", 2, 1), ("transfer", 0, 1))),
    (4, ("trees",), (3, 1, 1, 1), (("transfer", 0, 2),)),
    (4, ("rooted",), (3, 0, 0, 0), (TRANSFER, ("transfer", 0, 2), ("exchange", 3, 1))),
    (3, ("list", 2, ("either", ("subset", 2), ("bag", 2))), (4, 0, 0), (TRANSFER, ("transfer", 0, 2), TRANSFER)),
    (3, ("pair", ("subset", 2), ("bag", 2)), (3, 1, 0), (("transfer", 0, 2), ("transfer", 0, 1))),
    (3, NONE, (3, 1, 0), (("transfer", 0, 2), EXCHANGE)),
    (3, ("list", 0, NONE), (0, 0, 0), (EXCHANGE, ("exchange", 2, 1))),
    (3, LIST, (5, 0, 0), (TRANSFER, ("transfer", 0, 2))),
)


class RowsTest(RaisingTest):
    def test_examples(self):
        way = (("transfer", 0, 2), ("exchange", 1, 2))
        self.assertEqual(rows_on(3, (2, 0, 0), way), ((2, 0, 0), (1, 0, 1), (1, 1, 0)))
        self.assert_error(BadStep(2), rows_on, 3, (2, 0, 0), way + (("transfer", 2, 0),))
        self.assertEqual(rows_on(3, (24, 0, 24), ()), ((24, 0, 24),))

    def test_all_short_ways(self):
        deeds = [(word, one, other) for word in ("transfer", "exchange") for one, other in permutations(range(3), 2)]
        for start in ((0, 0, 0), (2, 1, 0), (1, 2, 2), (24, 24, 23)):
            for way in product(deeds, repeat=2):
                told = rows_by_hand(start, way)
                if told:
                    self.assertEqual(rows_on(3, start, way), tuple(told))
                else:
                    place = 1 if rows_by_hand(start, way[:1]) else 0
                    self.assert_error(BadStep(place), rows_on, 3, start, way)

    def test_at_equal_numbers_no_transfer_is_let(self):
        for start in ((0, 0), (1, 1), (24, 24), (3, 4)):
            self.assert_error(BadStep(0), rows_on, 2, start, (TRANSFER,))
        self.assertEqual(rows_on(2, (24, 23), (TRANSFER,)), ((24, 23), (23, 24)))
        self.assertEqual(rows_on(2, (24, 24), (EXCHANGE,)), ((24, 24), (24, 24)))

    def test_sixty_deeds(self):
        self.assertEqual(rows_on(2, (1, 0), (EXCHANGE,) * 60), ((1, 0), (0, 1)) * 30 + ((1, 0),))
        self.assert_error(BadWay(60), rows_on, 2, (1, 0), (EXCHANGE,) * 61)
        self.assert_error(BadWay(60), rows_on, 2, (1, 0), (None,) + (EXCHANGE,) * 60)
        self.assert_error(BadWay(60), rows_on, 2, (0, 0), (TRANSFER,) * 61)

    def test_things_that_are_no_deeds(self):
        for value in NO_DEEDS:
            for place, size in ((0, 1), (0, 5), (2, 5), (4, 5), (59, 60)):
                way = (EXCHANGE,) * place + (value,) + (EXCHANGE,) * (size - place - 1)
                self.assert_error(BadWay(place), rows_on, 3, (1, 0, 0), way)
            self.assert_error(BadWay(1), rows_on, 3, (1, 0, 0), (EXCHANGE, value, value))
        for value in NO_WAYS:
            self.assert_error(BadWay(0), rows_on, 3, (1, 0, 0), value)

    def test_deeds_that_are_not_let(self):
        for place, size in ((0, 1), (0, 5), (2, 5), (4, 5), (59, 60)):
            way = (("exchange", 0, 2),) * place + (TRANSFER,) + (("exchange", 0, 2),) * (size - place - 1)
            self.assert_error(BadStep(place), rows_on, 3, (1, 1, 1), way)
        self.assert_error(BadStep(1), rows_on, 3, (1, 1, 1), (EXCHANGE, TRANSFER, TRANSFER))
        # A thing that is no deed comes ahead of a deed that is not let.
        self.assert_error(BadWay(2), rows_on, 3, (1, 1, 1), (TRANSFER, TRANSFER, None))

    def test_errors_in_their_order(self):
        self.assert_error(BadMany(1), rows_on, 1, None, None)
        for value in ((), (0, 0), (0, 0, 25), (0, 0, True), [0, 0, 0], *ODD_VALUES):
            self.assert_error(BadContent(value), rows_on, 3, value, None)


class UnitsTest(RaisingTest):
    def test_examples(self):
        self.assertEqual(units(3, (4, 0, 0), (1, 1, 2)), 2)
        self.assertEqual(units(3, (0, 0, 0), (0, 0, 0)), 0)
        self.assertEqual(units(3, (3, 1, 2), (2, 3, 1)), 0)
        self.assertEqual(units(2, (24, 0), (0, 24)), 0)
        self.assertEqual(units(2, (24, 0), (12, 12)), 12)
        self.assertEqual(units(2, (12, 12), (24, 0)), 12)
        self.assertEqual(units(5, (24, 24, 24, 0, 0), (15, 15, 14, 14, 14)), 28)

    def test_errors_in_their_order(self):
        self.assert_error(BadMany(6), units, 6, None, None)
        self.assert_error(BadContent(None), units, 3, None, 5)
        self.assert_error(BadContent((0, 0)), units, 3, (0, 0, 0), (0, 0))
        self.assert_error(BadContent((0, 0, 25)), units, 3, (0, 0, 0), (0, 0, 25))
        self.assert_error(BadTotal(4), units, 3, (1, 1, 1), (4, 0, 0))
        self.assert_error(BadTotal(0), units, 3, (1, 1, 1), (0, 0, 0))


class WayToTest(RaisingTest):
    def check(self, many, start, goal):
        """Check what way_to tells of two rows."""
        way = way_to(many, start, goal)
        self.assertIs(way is not None, is_evener(many, goal, start), (start, goal))
        if way is not None:
            self.assertEqual(rows_by_hand(start, way)[-1], goal)
            self.assertTrue(is_way(many, start, goal, way))
            words = [word for word, _, _ in way]
            self.assertEqual(words.count("transfer"), units(many, start, goal))
            self.assertLessEqual(words.count("exchange"), many - 1)
        return way

    def test_all_small_rows(self):
        for many, most in ((2, 6), (3, 3), (4, 2)):
            for start, goal in product(contents(many, most), repeat=2):
                self.check(many, start, goal)
        for start in contents(5, 2)[::7]:
            for goal in contents(5, 2)[::5]:
                self.check(5, start, goal)

    def test_great_numbers(self):
        for many, start, goal in ((2, (24, 0), (12, 12)), (2, (0, 24), (24, 0)), (3, (24, 24, 24), (24, 24, 24)),
                                  (4, (24, 0, 24, 0), (12, 12, 12, 12)), (5, (0, 24, 0, 24, 24), (14, 15, 14, 15, 14)),
                                  (5, (24, 24, 0, 0, 0), (9, 10, 10, 9, 10)), (5, (24, 0, 0, 0, 0), (4, 5, 5, 5, 5)),
                                  (5, (1, 2, 3, 4, 24), (24, 4, 3, 2, 1))):
            self.assertIsNotNone(self.check(many, start, goal))
            if sorted(start) != sorted(goal):
                self.assertIsNone(self.check(many, goal, start))

    def test_no_fewer_transfers_will_do(self):
        for many, start in ((2, (5, 0)), (3, (4, 1, 0)), (3, (0, 2, 4)), (3, (3, 0, 3)), (4, (0, 3, 0, 1))):
            fewest = fewest_transfers(many, start)
            for goal in contents(many, sum(start)):
                way = way_to(many, start, goal)
                self.assertIs(goal in fewest, way is not None)
                if way is not None:
                    self.assertEqual(fewest[goal], units(many, start, goal))

    def test_no_way(self):
        self.assertIsNone(way_to(3, (1, 1, 1), (3, 0, 0)))
        self.assertIsNone(way_to(3, (1, 1, 1), (1, 1, 0)))
        self.assertIsNone(way_to(3, (4, 0, 0), (2, 1, 0)))
        self.assertEqual(way_to(3, (1, 2, 0), (1, 2, 0)), ())

    def test_is_way(self):
        way = (("transfer", 0, 2), ("exchange", 1, 2))
        self.assertIs(is_way(3, (2, 0, 0), (1, 1, 0), way), True)
        self.assertIs(is_way(3, (2, 0, 0), (1, 0, 1), way), False)
        self.assertIs(is_way(3, (2, 0, 0), (1, 1, 1), way), False)
        self.assertIs(is_way(3, (2, 0, 0), (2, 0, 0), ()), True)
        self.assertIs(is_way(3, (2, 0, 0), (0, 2, 0), ()), False)
        self.assertIs(is_way(3, (1, 0, 0), (1, 0, 0), (EXCHANGE,) * 60), True)
        self.assertIs(is_way(3, (1, 0, 0), (0, 1, 0), (EXCHANGE,) * 61), False)
        self.assertIs(is_way(3, (1, 1, 0), (0, 2, 0), (TRANSFER,)), False)
        for value in NO_WAYS:
            self.assertIs(is_way(3, (1, 0, 0), (1, 0, 0), value), False)
        for value in NO_DEEDS:
            self.assertIs(is_way(3, (1, 0, 0), (1, 0, 0), (value,)), False)

    def test_errors_in_their_order(self):
        for call, others in ((way_to, ()), (is_way, (None,))):
            self.assert_error(BadMany(True), call, True, None, None, *others)
            self.assert_error(BadContent(None), call, 3, None, 5, *others)
            self.assert_error(BadContent(5), call, 3, (0, 0, 0), 5, *others)
            self.assert_error(BadContent((0, 0, 25)), call, 3, (0, 0, 0), (0, 0, 25), *others)


class LedTest(RaisingTest):
    def test_all_members_along_short_ways_and_back(self):
        for many, sort in SMALL:
            if how_many(many, sort) > 30:
                continue
            for member in reference.all_members(many, sort):
                start = content_of(many, sort, member)
                for way in all_ways(many, start, 2)[::3]:
                    steps = led_by_hand(many, sort, member, way)
                    self.assertEqual(led(many, sort, member, way), steps[-1])
                    self.assertEqual(content_of(many, sort, steps[-1]), rows_by_hand(start, way)[-1])
                    self.assertEqual(origin(many, sort, start, way, steps[-1]), (0, member))

    def test_all_members_of_small_sorts_along_a_way(self):
        for many, sort in SMALL:
            for member in reference.all_members(many, sort):
                start = content_of(many, sort, member)
                goal = tuple(sorted(start))
                giver, taker = goal.index(max(goal)), goal.index(min(goal))
                way = way_to(many, start, goal)
                if goal[giver] > goal[taker]:
                    way += (("transfer", giver, taker),)
                found = led(many, sort, member, way)
                self.assertEqual(found, led_by_hand(many, sort, member, way)[-1])
                self.assertEqual(origin(many, sort, start, way, found), (0, member))

    def test_long_ways(self):
        way = (EXCHANGE, ("exchange", 1, 2), ("exchange", 0, 2)) * 20
        for member in members(3, ("list", 2, ONE)):
            self.assertEqual(led(3, ("list", 2, ONE), member, way), led_by_hand(3, ("list", 2, ONE), member, way)[-1])
        self.assert_error(BadWay(60), led, 3, LIST, (0, 0, 1), way + (EXCHANGE,))

    def test_members_of_great_sorts(self):
        for many, sort in GREAT:
            for index in (0, how_many(many, sort) // 2):
                member = member_at(many, sort, index)
                start = content_of(many, sort, member)
                way = way_to(many, start, tuple(sorted(start)))
                if start[0] > start[1]:
                    way = (TRANSFER, EXCHANGE)
                found = led(many, sort, member, way)
                self.assertEqual(found, led_by_hand(many, sort, member, way)[-1])
                self.assertEqual(origin(many, sort, start, way, found), (0, member))

    def test_errors_in_their_order(self):
        self.assert_error(BadMany(1), led, 1, 5, None, None)
        self.assert_error(BadSort(()), led, 3, 5, None, None)
        self.assert_error(TooGreat(10), led, 3, deep(11), None, None)
        for value in (None, (0, 0), (0, 0, True), [0, 0, 0]):
            self.assert_error(BadMember(value), led, 3, LIST, value, None)
        for value in NO_WAYS:
            self.assert_error(BadWay(0), led, 3, LIST, (0, 0, 1), value)
        for value in NO_DEEDS:
            self.assert_error(BadWay(1), led, 3, LIST, (0, 0, 1), (TRANSFER, value, TRANSFER))
        self.assert_error(BadStep(1), led, 3, LIST, (0, 0, 1), (TRANSFER, TRANSFER, TRANSFER))
        self.assert_error(BadStep(0), led, 3, LIST, (0, 1, 2), (TRANSFER,))


class OriginTest(RaisingTest):
    def test_example(self):
        self.assertEqual(origin(3, LIST, (3, 0, 0), (TRANSFER,), (1, 0, 0)), (0, (0, 0, 0)))
        self.assertEqual(fresh(3, LIST, (3, 0, 0), (TRANSFER,)), [(1, (0, 0, 1)), (1, (0, 1, 0))])
        self.assertEqual(arisen(3, LIST, (3, 0, 0), (TRANSFER,)), (2,))

    def test_each_way(self):
        for many, sort, start, way in WAYS:
            rows = rows_by_hand(start, way)
            by_row = [[member for member in reference.all_members(many, sort)
                       if reference.content(many, sort, member) == row] for row in rows]
            told = []
            for place, deed in enumerate(way, start=1):
                reached = [led_by_hand(many, sort, member, [deed])[-1] for member in by_row[place - 1]]
                told += [(place, member) for member in by_row[place] if member not in reached]
            found = fresh(many, sort, start, way)
            self.assertEqual(found, sorted(told), (many, sort, start, way))
            self.assertIsInstance(found, list)
            numbers = [[place for place, _ in told].count(at) for at in range(1, len(rows))]
            self.assertEqual(arisen(many, sort, start, way), tuple(numbers))
            self.assertEqual(len(by_row[-1]), len(by_row[0]) + sum(numbers))
            origins = []
            for member in by_row[-1]:
                place, first = origin(many, sort, start, way, member)
                origins.append((place, first))
                self.assertEqual(led(many, sort, first, way[place:]), member)
                if place > 0:
                    self.assertIsNone(before_by_hand(many, sort, first, way[place - 1]))
            self.assertEqual(sorted(origins), sorted(told + [(0, member) for member in by_row[0]]))

    def test_origins_may_hang_on_the_way_but_not_how_many(self):
        one = (("transfer", 0, 1), ("transfer", 0, 2))
        other = (("transfer", 0, 2), ("transfer", 0, 1))
        firsts = [[origin(3, LIST, (3, 0, 0), way, member) for member in permutations(range(3))]
                  for way in (one, other)]
        self.assertNotEqual(firsts[0], firsts[1])
        self.assertEqual([[place for place, _ in found].count(0) for found in firsts], [1, 1])

    def test_arisen_of_many_members(self):
        great = ("list", 12, ("either", ONE, ONE))
        way = (TRANSFER, EXCHANGE, ("transfer", 1, 2))
        self.assertEqual(arisen(5, great, (12, 0, 0, 0, 0), way), (11 * 2 ** 12, 0, 120 * 2 ** 12))
        for many, sort in GREAT:
            told = dict(counts(many, sort))
            for start in list(told)[::len(told) // 5 + 1]:
                way = way_to(many, start, tuple(sorted(start)))
                greatest, least = max(start), min(start)
                if greatest > least:
                    way += (("transfer", many - 1, 0),)
                found = arisen(many, sort, start, way)
                rows = rows_by_hand(start, way)
                self.assertEqual(found, tuple(told.get(after, 0) - told.get(row, 0)
                                              for row, after in zip(rows, rows[1:])))
                self.assertTrue(all(number >= 0 for number in found))
                self.assertTrue(all(number == 0 for number, deed in zip(found, way) if deed[0] == "exchange"))
        self.assertEqual(arisen(3, GREATEST, (0, 0, 0), (EXCHANGE,) * 60), (0,) * 60)

    def test_a_start_that_no_member_has(self):
        self.assertEqual(arisen(3, ("subset", 2), (2, 0, 0), (TRANSFER,)), (1,))
        self.assertEqual(fresh(3, ("subset", 2), (2, 0, 0), (TRANSFER,)), [(1, (0, 1))])
        self.assertEqual(origin(3, ("subset", 2), (2, 0, 0), (TRANSFER,), (0, 1)), (1, (0, 1)))
        self.assertEqual(arisen(3, LIST, (24, 0, 0), (TRANSFER,)), (0,))

    def test_errors_of_origin(self):
        self.assert_error(BadMany(1), origin, 1, 5, None, None, None)
        self.assert_error(BadSort(()), origin, 3, 5, None, None, None)
        self.assert_error(BadContent(None), origin, 3, LIST, None, None, None)
        for value in NO_WAYS:
            self.assert_error(BadWay(0), origin, 3, LIST, (3, 0, 0), value, None)
        for value in NO_DEEDS:
            self.assert_error(BadWay(1), origin, 3, LIST, (0, 0, 0), (TRANSFER, value), None)
        self.assert_error(BadStep(1), origin, 3, LIST, (1, 0, 0), (TRANSFER, TRANSFER), None)
        for value in (None, (0, 0), (0, 0, True), [0, 0, 1]):
            self.assert_error(BadMember(value), origin, 3, LIST, (3, 0, 0), (TRANSFER,), value)
        self.assert_error(Unlike((3, 0, 0)), origin, 3, LIST, (3, 0, 0), (TRANSFER,), (0, 0, 0))
        self.assert_error(Unlike((1, 2, 0)), origin, 3, LIST, (3, 0, 0), (TRANSFER,), (0, 1, 1))

    def test_errors_of_fresh_and_arisen(self):
        great = ("list", 4, TEN)
        for call in (fresh, arisen):
            self.assert_error(BadMany(1), call, 1, 5, None, None)
            self.assert_error(BadSort(()), call, 3, 5, None, None)
            self.assert_error(BadContent(None), call, 3, great, None, None)
            for value in NO_WAYS:
                self.assert_error(BadWay(0), call, 3, great, (0, 0, 0), value)
            self.assert_error(BadWay(60), call, 3, great, (0, 0, 0), (EXCHANGE,) * 61)
            self.assert_error(BadWay(1), call, 3, great, (0, 0, 0), (TRANSFER, None))
            self.assert_error(BadStep(0), call, 3, great, (0, 0, 0), (TRANSFER,))
        self.assert_error(TooGreat(2000), fresh, 3, great, (0, 0, 0), ())
        self.assertEqual(arisen(3, great, (0, 0, 0), ()), ())
        two_thousand = ("pair", ("either", ("bag", 0), ("bag", 0)), ("list", 3, TEN))
        self.assertEqual(fresh(3, two_thousand, (0, 0, 0), (EXCHANGE,)), [])

    def test_a_changed_list_changes_nothing_else(self):
        fresh(3, LIST, (3, 0, 0), (TRANSFER,)).clear()
        self.assertEqual(len(fresh(3, LIST, (3, 0, 0), (TRANSFER,))), 2)


# Two ways from a row with the same last row.
TWO_WAYS = (
    (3, LIST, (3, 0, 0), (("transfer", 0, 1), ("transfer", 0, 2)), (("transfer", 0, 2), ("transfer", 0, 1))),
    (3, LIST, (3, 0, 0), (("transfer", 0, 1),), (("exchange", 0, 1), ("transfer", 1, 0), ("exchange", 0, 1))),
    (3, LIST, (2, 1, 0), (("transfer", 0, 2),), (("exchange", 0, 1), ("transfer", 1, 2))),
    (3, LIST, (2, 1, 0), (), (("exchange", 0, 1), ("exchange", 0, 1))),
    (3, LIST, (2, 1, 0), (TRANSFER,), (EXCHANGE,)),
    (3, ("list", 4, ONE), (4, 0, 0), (("transfer", 0, 1), ("transfer", 0, 2), ("transfer", 0, 1)),
     (("transfer", 0, 2), ("transfer", 0, 1), ("transfer", 0, 1))),
    (4, ("list", 4, ONE), (4, 0, 0, 0), (("transfer", 0, 1), ("transfer", 0, 2), ("transfer", 0, 3)),
     (("transfer", 0, 3), ("transfer", 0, 2), ("transfer", 0, 1))),
    (4, ("list", 4, ONE), (3, 1, 0, 0), (("transfer", 0, 2), ("transfer", 0, 3)),
     (("exchange", 0, 2), ("transfer", 2, 0), ("transfer", 2, 3), ("exchange", 1, 2), ("exchange", 1, 0))),
    (3, ("rounds", 2), (4, 2, 0), (("transfer", 0, 2), ("transfer", 0, 2)), (("transfer", 1, 2), ("transfer", 0, 1),
                                                                          ("transfer", 0, 2))),
    (4, ("family", 3, ("either", ONE, ("subset", 2))), (3, 1, 0, 0), (("transfer", 0, 2), ("transfer", 0, 3)),
     (("transfer", 0, 3), ("transfer", 0, 2))),
    (4, ("rooted",), (3, 0, 0, 0), (("transfer", 0, 1), ("transfer", 0, 2)), (("transfer", 0, 2), ("transfer", 0, 1))),
    (3, ("subset", 2), (2, 0, 0), (TRANSFER,), (("exchange", 0, 1), ("transfer", 1, 0))),
)


class WayOverTest(RaisingTest):
    def test_each_pair_of_ways(self):
        for many, sort, start, way, other in TWO_WAYS:
            self.assertEqual(rows_on(many, start, way)[-1], rows_on(many, start, other)[-1])
            last = rows_on(many, start, way)[-1]
            firsts = [member for member in members(many, sort) if content_of(many, sort, member) == start]
            lasts = [member for member in members(many, sort) if content_of(many, sort, member) == last]
            one = {led_by_hand(many, sort, member, way)[-1]: member for member in firsts}
            two = {led_by_hand(many, sort, member, other)[-1]: member for member in firsts}
            found = {}
            for member in lasts:
                if member in one:
                    wanted = led_by_hand(many, sort, one[member], other)[-1]
                else:
                    wanted = member
                    while wanted in two:
                        wanted = led_by_hand(many, sort, two[wanted], way)[-1]
                found[member] = way_over(many, sort, start, way, other, member)
                self.assertEqual(found[member], wanted)
                self.assertEqual(way_over(many, sort, start, other, way, wanted), member)
                self.assertEqual(way_over(many, sort, start, way, way, member), member)
                self.assertIs(member in one, wanted in two)
            self.assertEqual(sorted(found.values()), lasts)

    def test_some_are_led_over_several_others(self):
        found = [way_over(4, sort, start, way, other, member) != member
                 for _, sort, start, way, other in TWO_WAYS[6:7] for member in permutations(range(4))]
        self.assertIn(True, found)
        self.assertIn(False, found)

    def test_errors_in_their_order(self):
        great = ("list", 4, TEN)
        self.assert_error(BadMany(1), way_over, 1, 5, None, None, None, None)
        self.assert_error(BadSort(()), way_over, 3, 5, None, None, None, None)
        self.assert_error(BadContent(None), way_over, 3, LIST, None, None, None, None)
        for value in NO_WAYS:
            self.assert_error(BadWay(0), way_over, 3, LIST, (3, 0, 0), value, None, None)
            self.assert_error(BadWay(0), way_over, 3, LIST, (3, 0, 0), (), value, None)
        self.assert_error(BadWay(1), way_over, 3, LIST, (0, 0, 0), (TRANSFER, None), (), None)
        self.assert_error(BadStep(0), way_over, 3, LIST, (0, 0, 0), (TRANSFER,), None, None)
        self.assert_error(BadWay(1), way_over, 3, LIST, (0, 0, 0), (), (TRANSFER, None), None)
        self.assert_error(BadStep(0), way_over, 3, LIST, (0, 0, 0), (), (TRANSFER,), None)
        self.assert_error(BadWay(60), way_over, 3, LIST, (0, 0, 0), (), (EXCHANGE,) * 61, None)
        self.assert_error(Unlike((2, 0, 1)), way_over, 3, LIST, (3, 0, 0), (TRANSFER,), (("transfer", 0, 2),), None)
        self.assert_error(BadMember(None), way_over, 3, LIST, (3, 0, 0), (TRANSFER,), (TRANSFER,), None)
        self.assert_error(BadMember((0, 0, True)), way_over, 3, LIST, (3, 0, 0), (TRANSFER,), (TRANSFER,),
                          (0, 0, True))
        self.assert_error(Unlike((1, 2, 0)), way_over, 3, LIST, (3, 0, 0), (TRANSFER,), (TRANSFER,), (0, 1, 1))
        member = member_at(3, great, 0)
        self.assert_error(Unlike((0, 0, 0)), way_over, 3, great, (1, 0, 0), (), (), member)
        self.assert_error(TooGreat(2000), way_over, 3, great, (0, 0, 0), (), (), member)
        two_thousand = ("pair", ("either", ("bag", 0), ("bag", 0)), ("list", 3, TEN))
        member = member_at(3, two_thousand, 1999)
        self.assertEqual(way_over(3, two_thousand, (0, 0, 0), (), (EXCHANGE,), member), member)
