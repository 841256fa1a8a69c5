"""Rules: promises [49] and [50]."""

from unithouse.alike import are_alike
from unithouse.errors import BadMany, BadMember, BadRule, BadSort, TooGreat
from unithouse.listing import members
from unithouse.members import content_of
from unithouse.rules import RULES, fits, member_over, other_side
from unithouse.sorts import how_many, is_sort

from tests import reference
from tests.raising import RaisingTest
from tests.samples import EMPTY, GREAT, NONE, ODD_VALUES, ONE, SMALL, TOO_MANY, TWO_KINDS, balanced, deep

A, B, C = ("bag", 2), ("subset", 2), ("rounds", 1)
BOTH = ("either", ONE, B)

WORDS = """either_swap either_turn either_none pair_swap pair_turn pair_unit pair_none pair_either list_first
    list_empty family_empty heap_empty family_one heap_one family_none heap_none family_unit heap_unit subset_one
    subset_wide subset_family bag_heap family_either heap_either square parity rounds_again rounds_two trees_code
    rooted_code""".split()

# Several sorts could stand on the left.
NO_WAY_BACK = """pair_none list_empty family_empty heap_empty family_none heap_none family_unit heap_unit
    subset_wide""".split()


def chain(*sorts):
    """Return ALL of some sorts."""
    return sorts[0] if len(sorts) == 1 else ("either", sorts[0], chain(*sorts[1:]))


def row_sides(word, size, one, other):
    """Return both sides of family_either or heap_either."""
    return ((word, size, ("either", one, other)),
            chain(*[("pair", (word, i, one), (word, size - i, other)) for i in range(size + 1)]))


def parity_sides(size, part):
    """Return both sides of parity."""
    sides = [[("pair", ("family", i, part), ("heap", size - i, part)) for i in range(size + 1) if i % 2 == which]
             for which in range(2)]
    return chain(*sides[0]), chain(*sides[1])


# The word, the number of names, the left and the right side.
RIGHT = [
    ("either_swap", 3, ("either", A, B), ("either", B, A)),
    ("either_swap", 3, ("either", NONE, ONE), ("either", ONE, NONE)),
    ("either_swap", 3, ("either", ONE, ONE), ("either", ONE, ONE)),
    ("either_turn", 3, ("either", ("either", A, B), C), ("either", A, ("either", B, C))),
    ("either_turn", 3, ("either", BOTH, BOTH), ("either", ONE, ("either", B, BOTH))),
    ("either_none", 3, ("either", A, NONE), A),
    ("either_none", 3, ("either", NONE, NONE), NONE),
    ("pair_swap", 3, ("pair", A, ONE), ("pair", ONE, A)),
    ("pair_turn", 3, ("pair", ("pair", A, B), C), ("pair", A, ("pair", B, C))),
    ("pair_unit", 3, ("pair", A, EMPTY), A),
    ("pair_unit", 3, ("pair", EMPTY, EMPTY), EMPTY),
    ("pair_none", 3, ("pair", A, NONE), NONE),
    ("pair_either", 3, ("pair", A, ("either", B, C)), ("either", ("pair", A, B), ("pair", A, C))),
    ("list_first", 3, ("list", 3, B), ("pair", B, ("list", 2, B))),
    ("list_first", 3, ("list", 1, A), ("pair", A, ("list", 0, A))),
    ("list_first", 3, ("list", 12, EMPTY), ("pair", EMPTY, ("list", 11, EMPTY))),
    ("list_empty", 3, ("list", 0, A), EMPTY),
    ("family_empty", 3, ("family", 0, BOTH), EMPTY),
    ("heap_empty", 3, ("heap", 0, NONE), EMPTY),
    ("family_one", 3, ("family", 1, BOTH), BOTH),
    ("heap_one", 3, ("heap", 1, B), B),
    ("family_none", 3, ("family", 1, NONE), NONE),
    ("family_none", 3, ("family", 12, NONE), NONE),
    ("heap_none", 3, ("heap", 1, NONE), NONE),
    ("heap_none", 3, ("heap", 5, NONE), NONE),
    ("family_unit", 3, ("family", 2, EMPTY), NONE),
    ("family_unit", 3, ("family", 12, EMPTY), NONE),
    ("heap_unit", 3, ("heap", 0, EMPTY), EMPTY),
    ("heap_unit", 3, ("heap", 3, EMPTY), EMPTY),
    ("heap_unit", 3, ("heap", 12, EMPTY), EMPTY),
    ("subset_one", 3, ("subset", 1), ONE),
    ("subset_wide", 3, ("subset", 4), NONE),
    ("subset_wide", 2, ("subset", 12), NONE),
    ("subset_family", 4, ("subset", 2), ("family", 2, ONE)),
    ("subset_family", 3, EMPTY, ("family", 0, ONE)),
    ("subset_family", 3, ("subset", 4), ("family", 4, ONE)),
    ("bag_heap", 4, ("bag", 3), ("heap", 3, ONE)),
    ("bag_heap", 2, ("bag", 12), ("heap", 12, ONE)),
    *[("family_either", 3, *row_sides("family", size, ONE, B)) for size in range(5)],
    *[("heap_either", 3, *row_sides("heap", size, ONE, B)) for size in range(4)],
    ("family_either", 3, *row_sides("family", 2, BOTH, ONE)),
    ("family_either", 3, *row_sides("family", 2, ONE, NONE)),
    ("heap_either", 2, *row_sides("heap", 2, EMPTY, BOTH)),
    ("square", 3, ("pair", ONE, ONE), ("either", ("heap", 2, ONE), ("family", 2, ONE))),
    ("square", 3, ("pair", BOTH, BOTH), ("either", ("heap", 2, BOTH), ("family", 2, BOTH))),
    ("square", 3, ("pair", NONE, NONE), ("either", ("heap", 2, NONE), ("family", 2, NONE))),
    *[("parity", 3, *parity_sides(size, ONE)) for size in range(1, 6)],
    *[("parity", 3, *parity_sides(size, BOTH)) for size in range(1, 4)],
    ("parity", 3, *parity_sides(12, EMPTY)),
    ("parity", 3, *parity_sides(3, NONE)),
    ("rounds_again", 3, ("rounds", 2), ("pair", ("rounds", 1), ("rounds", 1))),
    ("rounds_again", 2, ("rounds", 2), ("pair", ("rounds", 1), ("rounds", 1))),
    ("rounds_two", 2, ("rounds", 1), ONE),
    *[("trees_code", many, ("trees",), ("pair", ("subset", many), ("list", many - 2, ONE))) for many in range(2, 6)],
    *[("rooted_code", many, ("rooted",), ("list", many - 1, ONE)) for many in range(2, 6)],
]

# The word, the number of names, and sorts that are no left side, then some that are no right side.
WRONG = [
    ("either_swap", 3, [ONE, ("pair", A, B)], [ONE, ("pair", A, B)]),
    ("either_turn", 3, [("either", A, ("either", B, C)), ("either", ("pair", A, B), C)],
     [("either", ("either", A, B), C), ("either", A, ("pair", B, C)), ("pair", A, ("either", B, C))]),
    ("either_none", 3, [("either", NONE, A), ("either", A, EMPTY), ("pair", A, NONE), NONE], []),
    ("pair_swap", 3, [ONE, ("either", A, B), ("list", 2, ONE)], [ONE, ("either", A, B)]),
    ("pair_turn", 3, [("pair", A, ("pair", B, C)), ("pair", ("either", A, B), C)],
     [("pair", ("pair", A, B), C), ("pair", A, ("either", B, C)), ("pair", A, A)]),
    ("pair_unit", 3, [("pair", EMPTY, A), ("pair", A, ("bag", 0)), ("pair", A, ("subset", 1)), EMPTY], []),
    ("pair_none", 3, [("pair", NONE, A), ("either", A, NONE), ("pair", A, ("subset", 4)), NONE],
     [NONE, ("pair", A, NONE), EMPTY]),
    ("pair_either", 3, [("pair", ("either", B, C), A), ("pair", A, ("pair", B, C)), ("either", A, ("either", B, C))],
     [("either", ("pair", A, B), ("pair", B, C)), ("either", ("pair", A, B), ("pair", C, A)),
      ("either", ("pair", A, B), C), ("pair", ("pair", A, B), ("pair", A, C))]),
    ("list_first", 3, [("list", 0, A), ("family", 2, B), ("pair", A, ("list", 1, A)), ONE],
     [("pair", A, ("list", 2, B)), ("pair", ("list", 2, ONE), ONE), ("pair", ONE, ("heap", 2, ONE)),
      ("pair", EMPTY, ("list", 12, EMPTY)), ("list", 2, ONE)]),
    ("list_empty", 3, [("list", 1, ONE), ("heap", 0, ONE), EMPTY], [EMPTY, ("bag", 0), ONE]),
    ("family_empty", 3, [("family", 1, ONE), ("list", 0, ONE), ("heap", 0, ONE)], [EMPTY, ("bag", 0), ONE]),
    ("heap_empty", 3, [("heap", 1, ONE), ("list", 0, ONE), ("family", 0, ONE)], [EMPTY, ("bag", 0), ONE]),
    ("family_one", 3, [("family", 0, ONE), ("family", 2, ONE), ("heap", 1, ONE), ("list", 1, ONE)],
     [A, C, ("trees",), ("pair", ONE, ONE), ("either", ONE, A)]),
    ("heap_one", 3, [("heap", 0, ONE), ("heap", 2, ONE), ("family", 1, ONE)], [A, C, ("rooted",), ("either", A, ONE)]),
    ("family_none", 3, [("family", 0, NONE), ("family", 1, ONE), ("heap", 1, NONE), ("family", 2, ("subset", 4))],
     [NONE, EMPTY]),
    ("heap_none", 3, [("heap", 0, NONE), ("heap", 1, ONE), ("family", 1, NONE)], [NONE, EMPTY]),
    ("family_unit", 3, [("family", 1, EMPTY), ("family", 0, EMPTY), ("heap", 2, EMPTY), ("family", 2, ("subset", 1))],
     [NONE, EMPTY]),
    ("heap_unit", 3, [("family", 3, EMPTY), ("heap", 3, ("subset", 1)), ("list", 3, EMPTY)], [EMPTY, NONE, ONE]),
    ("subset_one", 3, [("subset", 2), EMPTY, ("bag", 1), ONE], [("subset", 1), ("bag", 1), NONE]),
    ("subset_wide", 3, [("subset", 3), ("subset", 2), ("bag", 4), NONE], [NONE, EMPTY]),
    ("subset_wide", 5, [("subset", 4), ("subset", 5)], []),
    ("subset_family", 3, [("bag", 2), ("family", 2, ONE)], [("heap", 2, ONE), ("family", 2, B), ("subset", 2)]),
    ("bag_heap", 3, [("subset", 2), ("heap", 2, ONE)], [("family", 2, ONE), ("heap", 2, B), ("bag", 2)]),
    ("family_either", 3, [("heap", 2, BOTH), ("family", 2, ONE), ("list", 2, BOTH), BOTH],
     [row_sides("heap", 2, ONE, B)[1], ("pair", ("family", 0, ONE), ("family", 1, B)),
      ("pair", ("family", 1, ONE), ("family", 0, B)), ("either", ("pair", ("family", 0, ONE), ("family", 1, B)),
                                                       ("pair", ("family", 1, B), ("family", 0, ONE))),
      chain(*[("pair", ("family", i, ONE), ("family", 3 - i, B)) for i in range(3)]),
      chain(*[("pair", ("family", i, ONE), ("family", 2 - i, B)) for i in (1, 0, 2)]), ONE,
      chain(*[("pair", ("family", i, ONE), ("family", 1 - i, B)) for i in range(2)], NONE)]),
    ("heap_either", 3, [("family", 2, BOTH), ("heap", 2, ONE), ("heap", 2, ("subset", 1))],
     [row_sides("family", 2, ONE, B)[1], ("pair", ("heap", 0, ONE), ("heap", 1, B)), ONE,
      ("pair", ("heap", 1, ONE), ("heap", 0, B))]),
    ("square", 3, [("pair", ONE, B), ("pair", A, A), ("either", ONE, ONE), ("list", 2, ONE)],
     [("either", ("family", 2, ONE), ("heap", 2, ONE)), ("either", ("heap", 2, ONE), ("family", 2, B)),
      ("either", ("heap", 3, ONE), ("family", 3, ONE)), ("pair", ONE, ONE)]),
    ("parity", 3, [parity_sides(3, ONE)[1], ("pair", ("family", 0, ONE), ("heap", 0, ONE)),
                   ("pair", ("family", 0, ONE), ("heap", 2, ONE)), ("pair", ("family", 0, ONE), ("heap", 1, B)),
                   ("pair", ("heap", 0, ONE), ("family", 1, ONE)), ("either", parity_sides(2, ONE)[0], NONE), ONE],
     [parity_sides(3, ONE)[0], ("pair", ("family", 0, ONE), ("heap", 0, ONE)),
      ("pair", ("family", 1, ONE), ("heap", 2, ONE)), ("pair", ("family", 1, ONE), ("heap", 0, B)), ONE,
      ("pair", ("family", 1, EMPTY), ("heap", 12, EMPTY))]),
    ("rounds_again", 3, [("rounds", 1), ("pair", ("rounds", 1), ("rounds", 1))],
     [("rounds", 2), ("list", 2, ("rounds", 1)), ("pair", ("rounds", 1), ("rounds", 2))]),
    ("rounds_again", 5, [("rounds", 1)], []),
    ("rounds_two", 3, [("rounds", 1), ("rounds", 2)], [ONE]),
    ("rounds_two", 5, [("rounds", 1)], [ONE]),
    ("rounds_two", 2, [("rounds", 2), ONE], [("rounds", 1), ("subset", 1)]),
    ("trees_code", 4, [("rooted",), ONE], [("pair", ("subset", 4), ("list", 3, ONE)), ("list", 2, ONE), ("trees",),
                                           ("pair", ("subset", 3), ("list", 2, ONE))]),
    ("rooted_code", 4, [("trees",), ONE], [("list", 2, ONE), ("list", 4, ONE), ("list", 3, B), ("rooted",)]),
]

# The word, the number of names, the left side, and pairs of a left member and the right one.
LED = [
    ("either_swap", 3, ("either", A, B), [((0, (1, 1)), (1, (1, 1))), ((1, (0, 2)), (0, (0, 2)))]),
    ("either_turn", 3, ("either", ("either", A, B), ONE),
     [((0, (0, (1, 1))), (0, (1, 1))), ((0, (1, (0, 2))), (1, (0, (0, 2)))), ((1, 2), (1, (1, 2)))]),
    ("either_none", 3, ("either", A, NONE), [((0, (0, 1)), (0, 1))]),
    ("pair_swap", 3, ("pair", A, ONE), [(((0, 1), 2), (2, (0, 1)))]),
    ("pair_turn", 3, ("pair", ("pair", ONE, A), B), [(((0, (1, 1)), (1, 2)), (0, ((1, 1), (1, 2))))]),
    ("pair_unit", 3, ("pair", ONE, EMPTY), [((2, ()), 2)]),
    ("pair_either", 3, ("pair", ONE, ("either", A, B)),
     [((1, (0, (2, 2))), (0, (1, (2, 2)))), ((1, (1, (0, 2))), (1, (1, (0, 2))))]),
    ("list_first", 3, ("list", 3, ONE), [((0, 2, 1), (0, (2, 1)))]),
    ("list_first", 3, ("list", 1, ONE), [((2,), (2, ()))]),
    ("list_empty", 3, ("list", 0, A), [((), ())]),
    ("family_empty", 3, ("family", 0, B), [((), ())]),
    ("heap_empty", 3, ("heap", 0, B), [((), ())]),
    ("family_one", 3, ("family", 1, B), [(((0, 2),), (0, 2))]),
    ("heap_one", 3, ("heap", 1, ONE), [((1,), 1)]),
    ("heap_unit", 3, ("heap", 3, EMPTY), [(((), (), ()), ())]),
    ("heap_unit", 3, ("heap", 0, EMPTY), [((), ())]),
    ("subset_one", 3, ("subset", 1), [((2,), 2)]),
    ("subset_family", 3, ("subset", 2), [((0, 2), (0, 2))]),
    ("bag_heap", 3, ("bag", 3), [((0, 2, 2), (0, 2, 2))]),
    ("family_either", 3, ("family", 2, BOTH),
     [(((0, 1), (0, 2)), (1, (1, ((1, 2), ())))), (((0, 1), (1, (0, 2))), (1, (0, ((1,), ((0, 2),))))),
      (((1, (0, 1)), (1, (0, 2))), (0, ((), ((0, 1), (0, 2)))))]),
    ("family_either", 3, ("family", 0, BOTH), [((), ((), ()))]),
    ("heap_either", 3, ("heap", 1, BOTH), [(((0, 1),), (1, ((1,), ()))), (((1, (0, 1)),), (0, ((), ((0, 1),))))]),
    ("heap_either", 3, ("heap", 2, BOTH), [(((0, 1), (0, 1)), (1, (1, ((1, 1), ()))))]),
    ("square", 3, ("pair", ONE, ONE), [((2, 0), (1, (0, 2))), ((0, 2), (0, (0, 2))), ((1, 1), (0, (1, 1)))]),
    ("parity", 3, parity_sides(2, ONE)[0],
     [((0, ((), (1, 1))), ((1,), (1,))), ((0, ((), (1, 2))), ((1,), (2,))), ((1, ((0, 2), ())), ((2,), (0,)))]),
    ("parity", 3, parity_sides(3, ONE)[0],
     [((0, ((), (0, 0, 1))), (0, ((0,), (0, 1)))), ((1, ((0, 1), (0,))), (0, ((1,), (0, 0)))),
      ((1, ((1, 2), (0,))), (1, ((0, 1, 2), ())))]),
    ("parity", 3, parity_sides(1, ONE)[0], [(((), (2,)), ((2,), ()))]),
    ("rounds_again", 3, ("rounds", 2), [(((0, 1), (2, 0), (1, 1)), (((0,), (2,), (1,)), ((1,), (0,), (1,))))]),
    ("rounds_two", 2, ("rounds", 1), [(((0,),), 0), (((1,),), 1)]),
    ("trees_code", 4, ("trees",), [(((0, 3), (1, 3), (2, 3)), ((0, 1, 2, 3), (3, 3)))]),
    ("trees_code", 2, ("trees",), [(((0, 1),), ((0, 1), ()))]),
    ("rooted_code", 3, ("rooted",), [((0, ((0, 1), (1, 2))), (1, 0))]),
]


class SidesTest(RaisingTest):
    def test_words(self):
        self.assertEqual(RULES, tuple(WORDS))
        self.assertIsInstance(RULES, tuple)
        self.assertEqual({word for word, *_ in RIGHT}, set(WORDS))
        self.assertEqual({word for word, *_ in WRONG}, set(WORDS))

    def test_example(self):
        self.assertEqual(other_side(3, "square", ("pair", ONE, ONE)), ("either", ("heap", 2, ONE), ("family", 2, ONE)))

    def test_both_sides(self):
        for word, many, left, right in RIGHT:
            self.assertIs(fits(many, word, left, right), True, (word, left))
            self.assertEqual(other_side(many, word, left), right)
            self.assertEqual(other_side(many, word, left, back=False), right)
            wanted = None if word in NO_WAY_BACK else left
            self.assertEqual(other_side(many, word, right, back=True), wanted)
            self.assertTrue(are_alike(many, left, right))

    def test_other_rights_do_not_fit(self):
        for word, many, left, right in RIGHT:
            for other in (right, left, NONE, ONE, EMPTY, A, ("either", right, NONE)):
                self.assertIs(fits(many, word, left, other), other == right, (word, left, other))
            if left != right and word not in ("either_swap", "pair_swap"):
                self.assertIs(fits(many, word, right, left), False, (word, left))

    def test_what_a_rule_asks_is_not_given(self):
        for word, many, lefts, rights in WRONG:
            for left in lefts:
                self.assertIsNone(other_side(many, word, left), (word, left))
                for other, over, _, right in RIGHT:
                    if (other, over) == (word, many):
                        self.assertIs(fits(many, word, left, right), False, (word, left))
            for right in rights:
                self.assertIsNone(other_side(many, word, right, back=True), (word, right))
                for other, over, left, _ in RIGHT:
                    if (other, over) == (word, many) and word not in NO_WAY_BACK:
                        self.assertIs(fits(many, word, left, right), False, (word, right))

    def test_each_word_with_every_small_sort(self):
        for many, sort in SMALL:
            for word in WORDS:
                for back in (False, True):
                    side = other_side(many, word, sort, back=back)
                    if side is None:
                        continue
                    self.assertTrue(is_sort(many, side))
                    self.assertTrue(are_alike(many, sort, side), (word, sort, side))
                    self.assertIs(fits(many, word, side, sort) if back else fits(many, word, sort, side), True)
                    if not back and word not in NO_WAY_BACK:
                        self.assertEqual(other_side(many, word, side, back=True), sort)

    def test_great_sorts(self):
        for many, sort in GREAT:
            if is_sort(many, ("either", sort, NONE)):
                self.assertEqual(other_side(many, "either_none", sort, back=True), ("either", sort, NONE))
            if is_sort(many, ("pair", sort, EMPTY)):
                self.assertEqual(other_side(many, "pair_unit", sort, back=True), ("pair", sort, EMPTY))

    def test_what_would_stand_there_is_no_sort(self):
        self.assertIsNone(other_side(3, "either_none", deep(10), back=True))
        self.assertEqual(other_side(3, "either_none", deep(9), back=True), ("either", deep(9), NONE))
        sixty = balanced(ONE, 30)
        self.assertIsNone(other_side(3, "pair_unit", sixty, back=True))
        self.assertIsNone(other_side(3, "family_one", ("trees",), back=True))
        self.assertIsNone(other_side(3, "list_first", ("pair", EMPTY, ("list", 12, EMPTY)), back=True))
        self.assertIsNone(other_side(5, "rounds_again", ("pair", ("list", 0, ("rounds", 1)), ONE), back=True))
        self.assertIsNone(other_side(3, "pair_either", ("pair", balanced(ONE, 20), ("either", ONE, ONE))))
        self.assertIsNone(other_side(3, "square", ("pair", A, A)))
        # A half of the rows would pass the bound on parts.
        self.assertIsNone(other_side(3, "family_either", ("family", 12, ("either", EMPTY, EMPTY))))
        wide = ("pair", ("pair", ("list", 12, ("list", 3, EMPTY)), ONE), ONE)
        self.assertEqual(other_side(3, "pair_turn", wide), ("pair", wide[1][1], ("pair", ONE, ONE)))

    def test_the_second_word_of_a_row_is_for_heaps(self):
        for word in WORDS:
            if word.startswith("family_") and "heap" + word[6:] in WORDS and word != "family_unit":
                for other, many, left, right in RIGHT:
                    if other == word:
                        self.assertIs(fits(many, "heap" + word[6:], left, right), False)


class OverTest(RaisingTest):
    def test_examples(self):
        right = ("either", ("heap", 2, ONE), ("family", 2, ONE))
        self.assertEqual(member_over(3, "square", ("pair", ONE, ONE), right, (2, 0)), (1, (0, 2)))
        left, right = parity_sides(2, ONE)
        self.assertEqual(member_over(3, "parity", left, right, (0, ((), (1, 1)))), ((1,), (1,)))

    def test_each_row_by_hand(self):
        empty = {"pair_none", "family_none", "heap_none", "family_unit", "subset_wide"}
        self.assertEqual({word for word, *_ in LED} | empty, set(WORDS))
        for word, many, left, pairs in LED:
            right = other_side(many, word, left)
            for member, led in pairs:
                self.assertEqual(member_over(many, word, left, right, member), led, (word, member))
                self.assertEqual(member_over(many, word, left, right, member, back=False), led)
                self.assertEqual(member_over(many, word, left, right, led, back=True), member)

    def test_all_members(self):
        for word, many, left, right in RIGHT:
            if how_many(many, left) > 500:
                continue
            lefts, rights = reference.all_members(many, left), reference.all_members(many, right)
            led = [member_over(many, word, left, right, member) for member in lefts]
            self.assertEqual(sorted(led), rights, (word, left))
            for member, other in zip(lefts, led):
                self.assertEqual(member_over(many, word, left, right, other, back=True), member)
                self.assertEqual(content_of(many, left, member), content_of(many, right, other))

    def test_all_members_of_small_sorts(self):
        for many, sort in SMALL:
            for word in WORDS:
                side = other_side(many, word, sort)
                if side is not None:
                    told = {}
                    for member in members(many, sort)[::5]:
                        told[member] = member_over(many, word, sort, side, member)
                        self.assertEqual(member_over(many, word, sort, side, told[member], back=True), member)
                    self.assertEqual(len(set(told.values())), len(told))

    def test_no_members(self):
        for word, many, left, right in RIGHT:
            if how_many(many, left) == 0:
                for value in (0, (), ((), ()), (0, ()), None):
                    self.assert_error(BadMember(value), member_over, many, word, left, right, value)
                    self.assert_error(BadMember(value), member_over, many, word, left, right, value, back=True)

    def test_a_member_of_the_other_side(self):
        left, right = ("either", A, B), ("either", B, A)
        self.assert_error(BadMember((1, (2, 2))), member_over, 3, "either_swap", left, right, (1, (2, 2)))
        self.assert_error(BadMember((0, (2, 2))), member_over, 3, "either_swap", left, right, (0, (2, 2)), back=True)
        self.assert_error(BadMember((0, 1)), member_over, 3, "list_first", ("list", 2, ONE),
                          ("pair", ONE, ("list", 1, ONE)), (0, 1), back=True)
        self.assert_error(BadMember((0, (1,))), member_over, 3, "list_first", ("list", 2, ONE),
                          ("pair", ONE, ("list", 1, ONE)), (0, (1,)))


class ErrorsTest(RaisingTest):
    WRONG_WORDS = ("", "either", "Square", "square ", ("square",), ["square"], 0, 25, *ODD_VALUES)

    def test_wrong_words(self):
        for value in self.WRONG_WORDS:
            self.assert_error(BadRule(value), fits, 3, value, 5, 5)
            self.assert_error(BadRule(value), other_side, 3, value, 5)
            self.assert_error(BadRule(value), other_side, 3, value, 5, back=True)
            self.assert_error(BadRule(value), member_over, 3, value, 5, 5, None)

    def test_errors_in_their_order(self):
        self.assert_error(BadMany(1), fits, 1, "no", 5, 5)
        self.assert_error(BadMany(True), other_side, True, "no", 5)
        self.assert_error(BadMany(6), member_over, 6, "no", 5, 5, None)
        for word in WORDS:
            self.assert_error(BadSort(()), other_side, 3, word, 5)
            self.assert_error(TooGreat(10 ** 30), other_side, 3, word, TOO_MANY, back=True)
            for call, others in ((fits, ()), (member_over, (None,))):
                self.assert_error(BadSort(()), call, 3, word, 5, deep(11), *others)
                self.assert_error(TooGreat(10), call, 3, word, deep(11), 5, *others)
                self.assert_error(BadSort((2,)), call, 3, word, ONE, ("pair", ONE, 5), *others)

    def test_a_rule_that_does_not_fit(self):
        for word in WORDS:
            self.assert_error(BadRule(word), member_over, 3, word, TWO_KINDS, C, None)
            self.assert_error(BadRule(word), member_over, 3, word, TWO_KINDS, C, None, back=True)
        self.assert_error(BadRule("rounds_two"), member_over, 3, "rounds_two", ("rounds", 1), ONE, 0)
        self.assert_error(BadRule("list_empty"), member_over, 3, "list_empty", EMPTY, ("list", 0, ONE), ())

    def test_wrong_members(self):
        for value in (None, 5, (0,), (True, 0), (0, 3), [0, 0], (0, 0, 0)):
            self.assert_error(BadMember(value), member_over, 3, "pair_swap", ("pair", ONE, ONE), ("pair", ONE, ONE),
                              value)

    def test_back_is_passed_by_name(self):
        with self.assertRaises(TypeError):
            other_side(3, "square", ("pair", ONE, ONE), True)
        with self.assertRaises(TypeError):
            member_over(3, "pair_swap", ("pair", ONE, ONE), ("pair", ONE, ONE), (0, 1), True)
