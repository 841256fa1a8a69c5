"""Trees and their codes: promises [6], [14]."""

from itertools import product

from unithouse.codes import coded_rooted, coded_tree, is_rooted, is_tree, rooted_code, tree_code
from unithouse.errors import BadMany, BadMember

from tests import reference
from tests.raising import RaisingTest
from tests.samples import ODD_VALUES

PATH = ((0, 1), (1, 2), (2, 3))

NO_TREES = (
    (), PATH[:2], PATH + ((0, 3),), ((0, 1), (0, 2), (1, 2)), ((0, 1), (0, 1), (2, 3)), ((1, 0), (1, 2), (2, 3)),
    ((1, 2), (0, 1), (2, 3)), ((0, 1), (2, 3), (1, 2)), ((0, 0), (1, 2), (2, 3)), ((0, 1), (1, 2), (2, 4)),
    ((-1, 1), (1, 2), (2, 3)), ((False, 1), (1, 2), (2, 3)), ((0, True), (1, 2), (2, 3)), ((0, 1), (True, 2), (2, 3)),
    [(0, 1), (1, 2), (2, 3)], ([0, 1], [1, 2], [2, 3]), ((0, 1), (1, 2), [2, 3]), ((0, 1), (1, 2), (2,)),
    ((0, 1), (1, 2), (2, 3, 3)), ((0, 1), (1, 2), 3), ((0, 1), (1, 2), (2, 3.0)), ((0, 1), (1, 2), "23"),
    ((0, 1), (1, 2), (2, None)), "abc", (0, 1, 2), ((0, 1), (0, 1), (0, 1)),
)


class CodesTest(RaisingTest):
    def test_examples(self):
        self.assertEqual(tree_code(4, ((0, 3), (1, 3), (2, 3))), (3, 3))
        self.assertEqual(rooted_code(3, (0, ((0, 1), (1, 2)))), (1, 0))
        self.assertEqual(coded_tree(4, (3, 3)), ((0, 3), (1, 3), (2, 3)))
        self.assertEqual(coded_rooted(3, (1, 0)), (0, ((0, 1), (1, 2))))

    def test_worked_out_by_hand(self):
        # Leaves 0, 2, 4: 0 goes (1), then 2 (1), then 1 (3), then 3 and 4 are left.
        self.assertEqual(tree_code(5, ((0, 1), (1, 2), (1, 3), (3, 4))), (1, 1, 3))
        self.assertEqual(rooted_code(5, (0, ((0, 1), (1, 2), (1, 3), (3, 4)))), (1, 3, 1, 0))
        self.assertEqual(rooted_code(5, (4, ((0, 1), (1, 2), (1, 3), (3, 4)))), (1, 1, 3, 4))

    def test_two_names(self):
        self.assertEqual(tree_code(2, ((0, 1),)), ())
        self.assertEqual(coded_tree(2, ()), ((0, 1),))
        self.assertEqual(rooted_code(2, (0, ((0, 1),))), (0,))
        self.assertEqual(rooted_code(2, (1, ((0, 1),))), (1,))
        self.assertEqual(coded_rooted(2, (1,)), (1, ((0, 1),)))

    def test_every_tree_there_and_back(self):
        for many in (2, 3, 4, 5):
            trees = reference.all_trees(many)
            codes = [tree_code(many, tree) for tree in trees]
            self.assertEqual(codes, [reference.tree_code(many, tree) for tree in trees])
            self.assertEqual(sorted(codes), list(product(range(many), repeat=many - 2)))
            self.assertEqual([coded_tree(many, code) for code in codes], trees)

    def test_every_rooted_tree_there_and_back(self):
        for many in (2, 3, 4, 5):
            rooted = reference.all_members(many, ("rooted",))
            codes = [rooted_code(many, value) for value in rooted]
            self.assertEqual(codes, [reference.rooted_code(many, value) for value in rooted])
            self.assertEqual(sorted(codes), list(product(range(many), repeat=many - 1)))
            self.assertEqual([coded_rooted(many, code) for code in codes], rooted)
            self.assertTrue(all(code[-1] == value[0] for code, value in zip(codes, rooted)))

    def test_how_often_a_name_stands(self):
        for root, tree in reference.all_members(4, ("rooted",)):
            ties = [sum(name in tie for tie in tree) for name in range(4)]
            self.assertEqual([tree_code(4, tree).count(name) + 1 for name in range(4)], ties)
            children = [number - (name != root) for name, number in enumerate(ties)]
            self.assertEqual([rooted_code(4, (root, tree)).count(name) for name in range(4)], children)

    def test_what_is_a_tree(self):
        for many in (2, 3, 4, 5):
            for tree in reference.all_trees(many):
                self.assertIs(is_tree(many, tree), True)
                self.assertIs(is_rooted(many, (0, tree)), True)
                self.assertIs(is_rooted(many, (many - 1, tree)), True)

    def test_what_is_no_tree(self):
        for value in NO_TREES + ODD_VALUES:
            self.assertIs(is_tree(4, value), False)
            self.assert_error(BadMember(value), tree_code, 4, value)
            self.assertIs(is_rooted(4, (0, value)), False)
            self.assert_error(BadMember((0, value)), rooted_code, 4, (0, value))
        self.assertIs(is_tree(3, PATH), False)
        self.assertIs(is_tree(5, PATH), False)

    def test_what_is_no_rooted_tree(self):
        wrong = [(value, PATH) for value in (-1, 4, True, False, None, "0", 0.0, (0,))]
        wrong += [(0,), (0, PATH, 0), [0, PATH], (PATH, 0), PATH, (0, list(PATH)), 0, (), *ODD_VALUES]
        for value in wrong:
            self.assertIs(is_rooted(4, value), False)
            self.assert_error(BadMember(value), rooted_code, 4, value)

    def test_what_is_no_code(self):
        letters = [(0, 4), (4, 0), (-1, 0), (True, 0), (0, False), (0, None), (0, "1"), (0, 1.0), (0, (1,))]
        for value in [(), (0,), (0, 0, 0), [0, 1], ((0, 1),), "01", *letters, *ODD_VALUES]:
            self.assert_error(BadMember(value), coded_tree, 4, value)
        longer = [(0,) + value for value in letters] + [value + (0,) for value in letters]
        for value in [(), (0,), (0, 0), (0, 0, 0, 0), [0, 1, 2], ((0, 1, 2),), "012", *longer, *ODD_VALUES]:
            self.assert_error(BadMember(value), coded_rooted, 4, value)
        self.assert_error(BadMember((0,)), coded_tree, 2, (0,))
        self.assert_error(BadMember(()), coded_rooted, 2, ())
        self.assert_error(BadMember((2,)), coded_rooted, 2, (2,))

    def test_many_is_refused_first(self):
        for call in (is_tree, is_rooted, tree_code, coded_tree, rooted_code, coded_rooted):
            for many in (1, 6, True, None):
                self.assert_error(BadMany(many), call, many, 5)
