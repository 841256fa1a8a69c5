"""Members and contents: promises [3], [5], [15]."""

from unithouse.errors import BadContent, BadMany, BadMember, BadSort, TooGreat
from unithouse.members import content_of, is_content, is_member, need_content, need_member

from tests import reference
from tests.raising import RaisingTest
from tests.samples import EMPTY, NONE, ODD_VALUES, ONE, SMALL, TWO_KINDS, balanced

# many, sort, members, and what is nearly one
TOLD = (
    (3, NONE, (), ((), 0)),
    (3, ONE, (0, 2), (3, -1, True, False, (0,), [0], "a", 1.0)),
    (4, ("subset", 2), ((0, 3), (1, 2)),
     ((3, 0), (1, 1), (0,), (0, 1, 2), (0, 4), (-1, 0), (0, True), (False, 1), [0, 1], (0, 1.0), "ab", ())),
    (4, ("bag", 2), ((0, 3), (1, 1)),
     ((3, 0), (0,), (0, 1, 2), (0, 4), (-1, 0), (0, True), (False, 0), [0, 1], (0, 1.0), ())),
    (3, ("either", ONE, ("subset", 2)), ((0, 1), (1, (0, 1))),
     ((1, 1), (0, (0, 1)), (2, 1), (-1, 1), (False, 1), (True, (0, 1)), (0,), (0, 1, 1), [0, 1], (0, True), 0, ())),
    (3, ("pair", ONE, ("subset", 2)), ((1, (0, 1)), (0, (1, 2))),
     (((0, 1), 1), (1,), (1, (0, 1), 1), [1, (0, 1)], (1, (1, 0)), (3, (0, 1)), (True, (0, 1)), (1, [0, 1]))),
    (3, ("list", 2, ("subset", 1)), (((0,), (0,)), ((2,), (1,))),
     (((0,),), ((0,), (0,), (0,)), ((0,), 0), [(0,), (0,)], ((0,), [0]), ((0,), (True,)), ())),
    (3, ("family", 2, TWO_KINDS), (((0, 0), (0, 1)), ((0, 2), (1, (0, 1)))),
     (((0, 1), (0, 0)), ((0, 0), (0, 0)), ((0, 0),), ((0, 0), (0, 1), (0, 2)), ((1, (0, 1)), (0, 2)),
      [(0, 0), (0, 1)], ((False, 0), (0, 1)), ((0, 0), (1, (1, 0))), ((0, 0), (1, 1)))),
    (3, ("heap", 2, TWO_KINDS), (((0, 0), (0, 1)), ((0, 2), (0, 2)), ((0, 2), (1, (0, 1)))),
     (((0, 1), (0, 0)), ((0, 0),), ((0, 0), (0, 1), (0, 2)), [(0, 0), (0, 1)], ((0, 0), (0, True)))),
    (3, ("rounds", 1), (((0,), (2,), (2,)), ((1,), (0,), (1,))),
     (((0,), (2,)), ((0,), (2,), (2,), (2,)), ((2,), (2,), (2,)), ((0,), (2,), (0,)), ((0, 0), (2,), (2,)),
      ((), (2,), (2,)), ([0], (2,), (2,)), [(0,), (2,), (2,)], ((False,), (2,), (2,)), ((True,), (2,), (2,)),
      (0, 2, 2), ((0.0,), (2,), (2,)))),
    (2, ("rounds", 2), (((0, 1),), ((1, 0),), ((1, 1),)),
     (((0,),), ((0, 1, 0),), ((0, 2),), ((0, True),), (0, 1), ([0, 1],), ((0, 1), (0, 1)), ())),
    (3, ("trees",), (((0, 1), (0, 2)), ((0, 2), (1, 2))),
     (((0, 2), (0, 1)), ((0, 1), (2, 1)), ((0, 1), (0, 1)), ((0, 1),), ((0, 1), (0, 2), (1, 2)), [(0, 1), (0, 2)])),
    (3, ("rooted",), ((0, ((0, 1), (0, 2))), (2, ((0, 1), (0, 2)))),
     ((3, ((0, 1), (0, 2))), (True, ((0, 1), (0, 2))), ((0, 1), (0, 2)), (0, ((0, 1), (2, 0))), [0, ((0, 1), (0, 2))])),
    (3, ("list", 0, NONE), ((),), (None, [], 0, ((),))),
    (3, ("family", 0, NONE), ((),), (None, [], 0, ((),))),
    (3, ("heap", 0, NONE), ((),), (None, [], 0, ((),))),
    (3, EMPTY, ((),), (None, [], 0, (0,), "")),
    (3, ("bag", 0), ((),), (None, [], 0, (0,), "")),
    (3, ("subset", 4), (), ((0, 1, 2), (0, 1, 2, 2), (0, 1, 2, 3))),
    (3, ("heap", 2, NONE), (), ((), ((), ()), (0, 0))),
)


class MembersTest(RaisingTest):
    def assert_member(self, many, sort, value):
        self.assertIs(is_member(many, sort, value), True)
        self.assertIs(need_member(many, sort, value), value)

    def assert_none(self, many, sort, value):
        self.assertIs(is_member(many, sort, value), False)
        self.assert_error(BadMember(value), need_member, many, sort, value)
        self.assert_error(BadMember(value), content_of, many, sort, value)

    def test_of_each_word(self):
        for many, sort, right, wrong in TOLD:
            for value in right:
                self.assert_member(many, sort, value)
            for value in wrong:
                self.assert_none(many, sort, value)

    def test_nested(self):
        for many, sort, right, wrong in TOLD:
            for value in right:
                self.assert_member(many, ("pair", ONE, ("list", 2, sort)), (0, (value, value)))
                self.assert_member(many, ("either", NONE, ("either", sort, ONE)), (1, (0, value)))
            for value in wrong:
                self.assert_none(many, ("list", 1, sort), (value,))
                self.assert_none(many, ("either", NONE, ("either", sort, NONE)), (1, (0, value)))

    def test_values_of_any_kind(self):
        for many, sort in SMALL:
            for value in ODD_VALUES:
                self.assert_none(many, sort, value)

    def test_all_members(self):
        for many, sort in SMALL:
            for value in reference.all_members(many, sort):
                self.assert_member(many, sort, value)

    def test_members_of_other_sorts(self):
        of_three = [sort for many, sort in SMALL if many == 3]
        listings = [reference.all_members(3, sort) for sort in of_three]
        for sort, own in zip(of_three, listings):
            for values in listings:
                for value in values:
                    self.assertIs(is_member(3, sort, value), value in own)

    def test_content_example(self):
        self.assertEqual(content_of(3, ("rounds", 1), ((0,), (2,), (2,))), (1, 0, 2))

    def test_contents_by_hand(self):
        told = (
            (3, ONE, 1, (0, 1, 0)),
            (4, ("subset", 2), (1, 3), (0, 1, 0, 1)),
            (4, ("bag", 3), (1, 1, 3), (0, 2, 0, 1)),
            (3, ("either", ONE, ("bag", 2)), (0, 0), (1, 0, 0)),
            (3, ("either", ONE, ("bag", 2)), (1, (1, 2)), (0, 1, 1)),
            (3, ("pair", ONE, ("bag", 2)), (0, (0, 2)), (2, 0, 1)),
            (3, ("list", 3, ONE), (2, 0, 2), (1, 0, 2)),
            (3, ("family", 2, ("subset", 2)), ((0, 1), (1, 2)), (1, 2, 1)),
            (3, ("heap", 2, ("subset", 2)), ((0, 1), (0, 1)), (2, 2, 0)),
            (3, ("rounds", 2), ((0, 1), (2, 2), (1, 1)), (1, 3, 2)),
            (4, ("trees",), ((0, 3), (1, 3), (2, 3)), (1, 1, 1, 3)),
            (4, ("rooted",), (3, ((0, 3), (1, 3), (2, 3))), (0, 0, 0, 3)),
            (4, ("rooted",), (0, ((0, 3), (1, 3), (2, 3))), (1, 0, 0, 2)),
            (3, ("list", 0, NONE), (), (0, 0, 0)),
        )
        for many, sort, member, content in told:
            self.assertEqual(content_of(many, sort, member), content)

    def test_content_of_all_members(self):
        for many, sort in SMALL:
            for member in reference.all_members(many, sort):
                self.assertEqual(content_of(many, sort, member), reference.content(many, sort, member))

    def test_the_sorts_errors_go_ahead(self):
        for call in (is_member, need_member, content_of):
            self.assert_error(BadMany(1), call, 1, 5, 5)
            self.assert_error(BadSort(()), call, 3, 5, 5)
            self.assert_error(BadSort((2,)), call, 3, ("heap", 1, ("bag", 1)), 5)
            self.assert_error(TooGreat(60), call, 3, balanced(NONE, 31), 5)


class ContentsTest(RaisingTest):
    def test_contents(self):
        for many, value in ((2, (0, 0)), (3, (24, 0, 24)), (5, (1, 2, 3, 4, 5))):
            self.assertIs(is_content(many, value), True)
            self.assertIs(need_content(many, value), value)

    def test_what_is_none(self):
        wrong = [(25, 0, 0), (0, 0, 25), (-1, 0, 0), (0, -1, 0), (True, 0, 0), (0, 0, False), (0, 0), (0, 0, 0, 0), (),
                 [0, 0, 0], (0, 0, 0.0), (0, 0, None), (0, 0, "0"), ((0,), 0, 0), "000", *ODD_VALUES]
        for value in wrong:
            self.assertIs(is_content(3, value), False)
            self.assert_error(BadContent(value), need_content, 3, value)

    def test_many_is_refused_first(self):
        for many in (1, 6, True):
            self.assert_error(BadMany(many), is_content, many, 5)
            self.assert_error(BadMany(many), need_content, many, 5)
