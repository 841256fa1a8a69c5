"""Tables turned, sorts and members turned about: promises [65] and [69]."""

from itertools import permutations

from unithouse.errors import BadMany, BadMember, BadSort, BadTable, NoFree, TooGreat
from unithouse.listing import member_at
from unithouse.readings import reading, transfer
from unithouse.sorts import how_many, parts
from unithouse.tables import table_content, table_sizes
from unithouse.turned import layers, quarter_back, quarter_turn, transposed, turned_member, turned_sort

from tests import reference
from tests import reference_tables as by_hand
from tests.raising import RaisingTest
from tests.samples import EMPTY, NONE, ODD_VALUES, ONE, SMALL, TOO_MANY, TWO_KINDS, deep

SAMPLES = by_hand.all_samples()

# Of each word that is turned about, and within others, so few members that a test may go through all of them.
TO_TURN = tuple((many, sort) for many, sort in SMALL if not any(word in str(sort) for word in ("rounds", "trees", "rooted"))
                ) + (
    (4, ("pair", ("bag", 2), ("either", ONE, ("subset", 3)))),
    (5, ("subset", 2)),
    (4, ("either", ("subset", 5), ("either", ("subset", 4), EMPTY))),
    (3, ("heap", 3, ("either", ONE, EMPTY))),
    (3, ("family", 2, ("either", ("subset", 4), TWO_KINDS))),
    (3, ("list", 2, ("pair", ("heap", 2, ONE), ("subset", 1)))),
)
TURNED_SHUT = ("rounds", 1), ("rounds", 2), ("trees",), ("rooted",)


def turned_by_hand(many, sort):
    """Return the sort turned about."""
    word = sort[0]
    return {
        "none": lambda: NONE,
        "one": lambda: ("subset", many - 1),
        "subset": lambda: NONE if sort[1] > many else ("subset", many - sort[1]),
        "bag": lambda: ("heap", sort[1], ("subset", many - 1)),
        "either": lambda: ("either", turned_by_hand(many, sort[2]), turned_by_hand(many, sort[1])),
        "pair": lambda: ("pair", turned_by_hand(many, sort[2]), turned_by_hand(many, sort[1])),
    }.get(word, lambda: (word, sort[1], turned_by_hand(many, sort[2])))()


def layers_by_hand(sort, member):
    """Return how many names, subsets and letters of bags stand in a member."""
    if sort[0] in ("one", "subset"):
        return 1
    if sort[0] == "bag":
        return len(member)
    if sort[0] == "either":
        return layers_by_hand(sort[1 + member[0]], member[1])
    kinds = sort[1:] if sort[0] == "pair" else [sort[2]] * len(member)
    return sum(layers_by_hand(kind, thing) for kind, thing in zip(kinds, member))


class TablesTest(RaisingTest):
    def test_quarter_turns(self):
        self.assertEqual(quarter_turn(((1, 0, 1), (0, 1, 1))), ((0, 1), (1, 0), (1, 1)))
        for table, sign in SAMPLES:
            if not sign:
                continue
            turned = quarter_turn(table)
            for name, row in enumerate(table):
                for column, item in enumerate(row):
                    self.assertEqual(turned[column][len(table) - 1 - name], item)
            self.assertEqual((len(turned), len(turned[0])), (len(table[0]), len(table)))
            self.assertEqual(table_content(turned, sign=True), table_sizes(table, sign=True))
            self.assertEqual(table_sizes(turned, sign=True), table_content(table, sign=True)[::-1])
            self.assertEqual(quarter_back(turned), table)
            self.assertEqual(quarter_turn(quarter_back(table)), table)
            self.assertEqual(quarter_turn(quarter_turn(quarter_turn(turned))), table)

    def test_transposed(self):
        self.assertEqual(transposed(((1, 0, 5), (0, 2, 1))), ((1, 0), (0, 2), (5, 1)))
        for table, _ in SAMPLES:
            self.assertEqual(transposed(table), tuple(zip(*table)))
            self.assertEqual(transposed(transposed(table)), table)

    def test_errors(self):
        for call in (quarter_turn, quarter_back, transposed):
            for value in (*ODD_VALUES, (), ((0, 0),)):
                if not isinstance(value, tuple) or len(value) < 2:
                    self.assert_error(BadTable(None), call, value)
            self.assert_error(BadTable(1), call, ((1, 0), (1, 0, 1)))
            self.assert_error(BadTable(0), call, ((1, True), (1, 0)))
            self.assert_error(TooGreat(12), call, ((1, 1, 1, 1),) * 4)
        for call in (quarter_turn, quarter_back):
            self.assert_error(BadTable(1), call, ((1, 0), (2, 0)))
        self.assertEqual(transposed(((1, 0), (2, 0))), ((1, 2), (0, 0)))
        self.assert_error(TooGreat(12), transposed, ((1, 0), (12, 0)))


class SortsTest(RaisingTest):
    def test_small_sorts(self):
        for many, sort in TO_TURN:
            turned = turned_sort(many, sort)
            self.assertEqual(turned, turned_by_hand(many, sort))
            self.assertEqual(how_many(many, turned), how_many(many, sort))

    def test_by_hand(self):
        self.assertEqual(turned_sort(4, ("either", ONE, ("bag", 2))),
                         ("either", ("heap", 2, ("subset", 3)), ("subset", 3)))
        self.assertEqual(turned_sort(4, ("pair", ("subset", 1), ("subset", 5))), ("pair", NONE, ("subset", 3)))
        self.assertEqual(turned_sort(3, ("list", 2, ("subset", 3))), ("list", 2, EMPTY))

    def test_sorts_that_are_not_turned_about(self):
        for shut in TURNED_SHUT:
            for sort, path in ((shut, ()), (("either", ONE, shut), (2,)), (("pair", shut, shut), (1,)),
                               (("list", 0, ("either", ONE, ("pair", shut, ("bag", 12)))), (2, 2, 1)),
                               (("either", ("list", 1, shut), shut), (1, 2))):
                for call in (turned_sort, layers, turned_member):
                    self.assert_error(BadSort(path), call, 3, sort, *([None] if call is not turned_sort else []))

    def test_what_comes_is_too_great(self):
        # Marks, parts and depth of what comes.
        self.assert_error(TooGreat(12), turned_sort, 5, ("list", 4, ONE))
        self.assertEqual(turned_sort(5, ("list", 3, ONE)), ("list", 3, ("subset", 4)))
        self.assert_error(TooGreat(12), turned_sort, 4, ("bag", 5))
        self.assertEqual(turned_sort(2, ("bag", 12)), ("heap", 12, ("subset", 1)))
        bag = ("bag", 1)
        self.assert_error(TooGreat(10), turned_sort, 3, deep(10, bag))
        self.assertEqual(len(parts(3, turned_sort(3, deep(9, bag)))), 18)

        def full(size):
            return bag if size == 1 else ("either", full(size - size // 2), full(size // 2))

        self.assertEqual(len(parts(3, turned_sort(3, full(20)))), 59)
        self.assert_error(TooGreat(60), turned_sort, 3, full(21))
        # A part that is not turned about comes first, what is wrong with the sort itself first of all.
        self.assert_error(BadSort((2,)), turned_sort, 5, ("pair", ("list", 4, ONE), ("rooted",)))
        self.assert_error(TooGreat(12), turned_sort, 5, ("pair", ("list", 12, ONE), ("rooted",)))
        self.assert_error(BadMany(1), turned_sort, 1, 5)
        self.assert_error(BadSort((1,)), turned_sort, 3, ("either", 5, ("trees",)))
        self.assert_error(TooGreat(10 ** 30), turned_sort, 3, TOO_MANY)


class MembersTest(RaisingTest):
    def test_by_hand(self):
        self.assertEqual(turned_member(4, ONE, 2), (0, 1, 3))
        self.assertEqual(turned_member(4, ("subset", 1), (2,)), (0, 1, 3))
        self.assertEqual(turned_member(3, ("bag", 3), (0, 0, 2)), ((0, 1), (1, 2), (1, 2)))
        self.assertEqual(turned_member(3, ("either", ONE, ("subset", 2)), (0, 1)), (1, (0, 2)))
        self.assertEqual(turned_member(3, ("either", ONE, ("subset", 2)), (1, (0, 1))), (0, (2,)))
        self.assertEqual(turned_member(3, ("pair", ONE, ("subset", 2)), (0, (0, 1))), ((2,), (1, 2)))
        self.assertEqual(turned_member(3, ("list", 3, ONE), (0, 0, 2)), ((0, 1), (1, 2), (1, 2)))
        self.assertEqual(turned_member(3, ("family", 2, TWO_KINDS), ((0, 1), (1, (0, 1)))), ((0, (2,)), (1, (0, 2))))
        self.assertEqual(turned_member(3, ("heap", 2, ONE), (0, 2)), ((0, 1), (1, 2)))
        self.assertEqual(layers(3, ("pair", ("bag", 3), ("heap", 2, ONE)), ((0, 0, 0), (1, 1))), 5)
        self.assertEqual(layers(3, ("list", 2, EMPTY), ((), ())), 2)
        self.assertEqual(layers(3, ("list", 0, ONE), ()), 0)

    def test_small_sorts(self):
        for many, sort in TO_TURN:
            turned, found = turned_sort(many, sort), []
            for member in reference.all_members(many, sort):
                other = turned_member(many, sort, member)
                found.append(other)
                count = layers(many, sort, member)
                self.assertEqual(count, layers_by_hand(sort, member))
                self.assertEqual(reference.content(many, turned, other),
                                 tuple(count - marks for marks in reference.content(many, sort, member)))
                self.check_moves(many, sort, member, turned, other)
            self.assertEqual(sorted(found), reference.all_members(many, turned))

    def check_moves(self, many, sort, member, turned, other):
        for one, two in permutations(range(many), 2):
            if one < two:
                text = reading(many, sort, member, one, two)
                self.assertEqual(reading(many, turned, other, one, two),
                                 "".join({"(": ")", ")": "("}[bracket] for bracket in reversed(text)))
            try:
                led = transfer(many, sort, member, one, two)
            except NoFree:
                self.assert_error(NoFree(two, one), transfer, many, turned, other, two, one)
                continue
            self.assertEqual(turned_member(many, sort, led), transfer(many, turned, other, two, one))

    def test_great_sorts(self):
        two = ("either", ("subset", 2), ("subset", 3))
        for many, sort in ((2, ("list", 12, ONE)), (4, ("list", 4, ("either", ONE, ("subset", 3)))),
                           (5, ("family", 4, two)), (5, ("heap", 4, two)), (5, ("pair", ("list", 2, two), ("bag", 1))),
                           (2, ("bag", 12)), (3, ("heap", 6, ("either", ONE, ("subset", 2))))):
            turned = turned_sort(many, sort)
            self.assertEqual(how_many(many, turned), how_many(many, sort))
            for index in range(0, how_many(many, sort), how_many(many, sort) // 9 + 1):
                member = member_at(many, sort, index)
                self.check_moves(many, sort, member, turned, turned_member(many, sort, member))

    def test_errors_in_their_order(self):
        for call in (turned_member, layers):
            self.assert_error(BadMany(1), call, 1, 5, None)
            self.assert_error(BadSort(()), call, 3, 5, None)
            self.assert_error(BadSort((2,)), call, 3, ("either", ONE, ("trees",)), None)
            self.assert_error(TooGreat(12), call, 5, ("list", 4, ONE), None)
            self.assert_error(TooGreat(12), call, 5, ("list", 4, ONE), (0, 0, 0, 0))
            for value in (3, *ODD_VALUES):
                self.assert_error(BadMember(value), call, 3, ONE, value)
            for value in ((0, 3), (2, 0), (1, (1, 0)), *ODD_VALUES):
                self.assert_error(BadMember(value), call, 3, TWO_KINDS, value)
