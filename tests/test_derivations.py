"""Derivations: promises [51] and [52]."""

import random
from itertools import combinations

from unithouse.alike import are_alike
from unithouse.derivations import Derivation, check_derivation, derivation
from unithouse.errors import (BadMany, BadMember, BadPaper, BadPath, BadRule, BadSort, BadStep, NothingBack, TooGreat,
                              UnitError)
from unithouse.listing import member_at, members
from unithouse.rules import RULES, member_over, other_side
from unithouse.sorts import how_many, is_sort, part_at, parts, put_at

from tests import reference
from tests.raising import RaisingTest
from tests.samples import EMPTY, GREAT, NONE, ODD_VALUES, ONE, SMALL, TEN, TOO_MANY, TWO_KINDS, deep

A, B = ("bag", 2), ("subset", 2)
SWAP, SWAPPED = ("either", ONE, B), ("either", B, ONE)
TURN = ((), "either_swap", False, SWAPPED)
WIDE = ("list", 12, ("bag", 2))


def rest_of(made):
    """Return all that a derivation tells."""
    return made.many, made.start, made.end, made.steps()


def steps_there_are(many, sort):
    """Return the list of all steps from a sort whose other side is told by the rule, and that are not refused."""
    found = []
    for path, part in parts(many, sort):
        for word in RULES:
            for back in (False, True):
                # Below a list of 0 things a part by itself may be no sort.
                side = other_side(many, word, part, back=back) if is_sort(many, part) else None
                if side is None:
                    continue
                try:
                    put_at(many, sort, path, side)
                except UnitError:
                    continue
                found.append((path, word, back, side))
    return found


def random_steps(many, sort, count, seed):
    """Return a list of so many steps, each from where the ones ahead of it lead."""
    chooser = random.Random(seed)
    here, found = sort, []
    for _ in range(count):
        there = steps_there_are(many, here)
        if not there:
            break
        step = chooser.choice(there)
        found.append(step)
        here = put_at(many, here, step[0], step[3])
    return found


def led(many, sort, step, member):
    """Return the member to which a step leads one, by what member_over tells of the part."""
    path, word, back, put = step
    part = part_at(many, sort, path)
    left, right = (put, part) if back else (part, put)
    return replaced(sort, path, member, lambda thing: member_over(many, word, left, right, thing, back=back))


def replaced(sort, path, member, lead):
    if not path:
        return lead(member)
    at, rest = path[0], path[1:]
    if sort[0] == "either":
        side, thing = member
        return (side, replaced(sort[at], rest, thing, lead)) if side == at - 1 else member
    if sort[0] == "pair":
        things = list(member)
        things[at - 1] = replaced(sort[at], rest, things[at - 1], lead)
        return tuple(things)
    things = [replaced(sort[2], rest, thing, lead) for thing in member]
    return tuple(things if sort[0] == "list" else sorted(things))


# The number of names, the sort, the step, and pairs of a member and what it is carried to.
CARRIED = (
    (3, SWAP, TURN, [((0, 2), (1, 2)), ((1, (0, 2)), (0, (0, 2)))]),
    (3, ("either", ONE, SWAP), ((2,), "either_swap", False, SWAPPED),
     [((0, 1), (0, 1)), ((1, (0, 1)), (1, (1, 1))), ((1, (1, (0, 1))), (1, (0, (0, 1))))]),
    (3, ("either", SWAP, ONE), ((1,), "either_swap", False, SWAPPED),
     [((1, 1), (1, 1)), ((0, (0, 1)), (0, (1, 1)))]),
    (3, ("pair", SWAP, SWAP), ((1,), "either_swap", False, SWAPPED),
     [(((0, 1), (0, 2)), ((1, 1), (0, 2)))]),
    (3, ("pair", SWAP, SWAP), ((2,), "either_swap", False, SWAPPED),
     [(((0, 1), (0, 2)), ((0, 1), (1, 2)))]),
    (3, ("list", 2, SWAP), ((2,), "either_swap", False, SWAPPED),
     [(((1, (0, 2)), (0, 1)), ((0, (0, 2)), (1, 1))), (((0, 1), (0, 0)), ((1, 1), (1, 0)))]),
    # The row is put in order again.
    (3, ("family", 2, SWAP), ((2,), "either_swap", False, SWAPPED),
     [(((0, 1), (1, (0, 2))), ((0, (0, 2)), (1, 1))), (((0, 0), (0, 1)), ((1, 0), (1, 1)))]),
    (3, ("heap", 3, SWAP), ((2,), "either_swap", False, SWAPPED),
     [(((0, 1), (0, 1), (1, (0, 2))), ((0, (0, 2)), (1, 1), (1, 1)))]),
    (3, ("list", 2, ("pair", ONE, ("heap", 2, SWAP))), ((2, 2, 2), "either_swap", False, SWAPPED),
     [(((0, ((0, 1), (1, (0, 1)))), (1, ((0, 0), (0, 0)))), ((0, ((0, (0, 1)), (1, 1))), (1, ((1, 0), (1, 0)))))]),
    (3, ("family", 2, ("subset", 1)), ((2,), "subset_one", False, ONE), [(((0,), (2,)), (0, 2))]),
    (3, ("family", 2, ONE), ((2,), "subset_one", True, ("subset", 1)), [((0, 2), ((0,), (2,)))]),
    (3, ("pair", ("list", 2, ONE), ONE), ((1,), "list_first", False, ("pair", ONE, ("list", 1, ONE))),
     [(((0, 2), 1), ((0, (2,)), 1))]),
    (3, ("pair", ONE, NONE), ((), "pair_none", False, NONE), []),
    (3, ("list", 0, SWAP), ((2,), "either_swap", False, SWAPPED), [((), ())]),
    (3, ("pair", ONE, ONE), ((), "square", False, ("either", ("heap", 2, ONE), ("family", 2, ONE))),
     [((2, 0), (1, (0, 2))), ((1, 1), (0, (1, 1)))]),
    (3, ("list", 2, ("trees",)), ((2,), "trees_code", False, ("pair", ("subset", 3), ("list", 1, ONE))),
     [((((0, 1), (1, 2)), ((0, 2), (1, 2))), (((0, 1, 2), (1,)), ((0, 1, 2), (2,))))]),
    (3, EMPTY, ((), "heap_unit", True, ("heap", 5, EMPTY)), [((), ((), (), (), (), ()))]),
)


class StepTest(RaisingTest):
    def test_without_steps(self):
        for many, sort in SMALL:
            made = Derivation(many, sort)
            self.assertEqual((made.many, made.start, made.end), (many, sort, sort))
            self.assertEqual((made.steps(), len(made), list(made)), ([], 0, []))
            self.assertIs(made.is_smooth(), True)
            for member in reference.all_members(many, sort):
                self.assertEqual((made.carried(member), made.carried_back(member)), (member, member))
            self.assert_error(NothingBack(), made.undo)
            self.assertEqual(made.turned(), made)

    def test_a_step_tells_what_it_put(self):
        for many, sort, step, _ in CARRIED:
            path, word, back, put = step
            for given in (put, None):
                if given is None and other_side(many, word, part_at(many, sort, path), back=back) is None:
                    continue
                made = Derivation(many, sort)
                self.assertIsNone(made.step(path, word, given, back=back))
                self.assertEqual(made.steps(), [step])
                self.assertIs(made.steps()[0][2], back)
                self.assertEqual((made.start, made.end), (sort, put_at(many, sort, path, put)))
                self.assertEqual((len(made), list(made)), (1, [step]))

    def test_carried_by_one_step(self):
        for many, sort, step, pairs in CARRIED:
            made = derivation(many, sort, [step])
            for member, other in pairs:
                self.assertEqual(made.carried(member), other, step)
                self.assertEqual(made.carried_back(other), member, step)

    def test_put_where_the_rule_does_not_tell_it(self):
        # Several sorts could stand on the left.
        for part, word, put in ((NONE, "pair_none", ("pair", A, NONE)), (NONE, "subset_wide", ("subset", 7)),
                                (EMPTY, "list_empty", ("list", 0, A)), (EMPTY, "family_empty", ("family", 0, SWAP)),
                                (NONE, "family_unit", ("family", 3, EMPTY)), (NONE, "heap_none", ("heap", 2, NONE)),
                                (EMPTY, "heap_unit", ("heap", 12, EMPTY)), (NONE, "family_none", ("family", 9, NONE)),
                                (EMPTY, "heap_empty", ("heap", 0, ONE))):
            made = Derivation(3, ("either", part, ONE))
            self.assert_error(BadRule(word), made.step, (1,), word, back=True)
            self.assertEqual(len(made), 0)
            made.step((1,), word, put, back=True)
            self.assertEqual(made.end, ("either", put, ONE))
            made.step((1,), word)
            self.assertEqual(made.end, made.start)
            self.assertEqual(made.steps(), [((1,), word, True, put), ((1,), word, False, part)])

    def test_all_steps_there_are(self):
        count, words = 0, set()
        for many, sort in SMALL:
            for step in steps_there_are(many, sort):
                path, word, back, put = step
                made = Derivation(many, sort)
                made.step(path, word, back=back)
                self.assertEqual(rest_of(made), (many, sort, put_at(many, sort, path, put), [step]))
                self.check_members(made)
                count += 1
                words.add(word)
        self.assertGreater(count, 150)
        self.assertGreater(len(words), 20)

    def check_members(self, made):
        """Check what a derivation with few members tells of them."""
        many, sorts = made.many, [made.start]
        for path, _, _, put in made:
            sorts.append(put_at(many, sorts[-1], path, put))
        self.assertEqual(sorts[-1], made.end)
        self.assertIs(are_alike(many, made.start, made.end), True)
        found = []
        for member in reference.all_members(many, made.start):
            here = member
            for sort, step in zip(sorts, made):
                here = led(many, sort, step, here)
            self.assertEqual(made.carried(member), here)
            self.assertEqual(made.carried_back(here), member)
            self.assertEqual(reference.content(many, made.end, here), reference.content(many, made.start, member))
            if made.is_smooth():
                for low, high in combinations(range(many), 2):
                    self.assertEqual(reference.reading(many, made.end, here, low, high),
                                     reference.reading(many, made.start, member, low, high))
            found.append(here)
        self.assertEqual(sorted(found), reference.all_members(many, made.end))

    def test_many_steps(self):
        smooth = 0
        for seed, (many, sort) in enumerate(SMALL):
            if how_many(many, sort) > 130:
                continue
            for count in (2, 5, 9):
                steps = random_steps(many, sort, count, seed)
                made = derivation(many, sort, steps)
                self.assertEqual(made.steps(), steps)
                self.check_members(made)
                self.check_turned(made)
                smooth += made.is_smooth() and len(made) > 1
        self.assertGreater(smooth, 5)

    def check_turned(self, made):
        turned = made.turned()
        self.assertEqual((turned.many, turned.start, turned.end), (made.many, made.end, made.start))
        self.assertEqual([(path, word, not back) for path, word, back, _ in reversed(made.steps())],
                         [(path, word, back) for path, word, back, _ in turned])
        self.assertEqual(turned.turned(), made)
        for member in reference.all_members(made.many, made.start):
            other = made.carried(member)
            self.assertEqual(turned.carried(other), member)
            self.assertEqual(turned.carried_back(member), other)
        there_and_back = made.joined(turned)
        self.assertEqual((there_and_back.start, there_and_back.end), (made.start, made.start))
        self.assertEqual(there_and_back.steps(), made.steps() + turned.steps())

    def test_members_of_great_sorts(self):
        for many, sort in GREAT:
            steps = random_steps(many, sort, 6, 5)
            self.assertGreater(len(steps), 0)
            made = derivation(many, sort, steps)
            for index in (0, 12345, how_many(many, sort) - 1):
                if index < how_many(many, sort):
                    member = member_at(many, sort, index)
                    self.assertEqual(made.carried_back(made.carried(member)), member)

    def test_forty_and_forty_one_steps(self):
        made = Derivation(3, SWAP)
        for count in range(40):
            self.assertEqual(len(made), count)
            made.step((), "either_swap")
        self.assertEqual((len(made), made.end), (40, SWAP))
        for passed in (((), "either_swap"), (5, "no rule"), ((9,), "either_swap")):
            self.assert_error(TooGreat(40), made.step, *passed)
        self.assertEqual((len(made), made.end), (40, SWAP))
        self.assertEqual(made.carried((0, 1)), (0, 1))
        made.undo()
        self.assertEqual((len(made), made.end), (39, SWAPPED))
        self.assertEqual(made.carried((0, 1)), (1, 1))
        made.step((), "either_swap")
        self.assertEqual(len(made), 40)

    def test_undo(self):
        steps = random_steps(3, ("pair", SWAP, ("bag", 2)), 12, 3)
        made = derivation(3, ("pair", SWAP, ("bag", 2)), steps)
        for count in range(len(steps) - 1, -1, -1):
            self.assertIsNone(made.undo())
            self.assertEqual(made, derivation(3, ("pair", SWAP, ("bag", 2)), steps[:count]))
            self.assertEqual(made.end, derivation(3, ("pair", SWAP, ("bag", 2)), steps[:count]).end)
        self.assert_error(NothingBack(), made.undo)
        self.assert_error(NothingBack(), made.undo)
        self.assertEqual(made, Derivation(3, ("pair", SWAP, ("bag", 2))))

    def test_not_there(self):
        self.assert_error(BadMany(1), Derivation, 1, 5)
        self.assert_error(BadSort((2,)), Derivation, 3, ("either", ONE, 5))
        self.assert_error(TooGreat(10), Derivation, 3, deep(11))
        self.assert_error(TooGreat(10 ** 30), Derivation, 3, TOO_MANY)


class RefusedTest(RaisingTest):
    def refused(self, error, made, *passed, **named):
        """Assert that a step is refused and changes nothing."""
        before = rest_of(made)
        self.assert_error(error, made.step, *passed, **named)
        self.assertEqual(rest_of(made), before)

    def test_paths(self):
        made = derivation(3, ("list", 2, SWAP), [((2,), "either_swap", False, SWAPPED)])
        for path in ((1,), (2, 3), (2, 0), (2, 1, 1), (-1,), (True,), (2, True), [2], [], 2, None, "2", (2.0,), ("2",)):
            self.refused(BadPath(path), made, path, "either_swap")
            # The path comes ahead of the word.
            self.refused(BadPath(path), made, path, "no rule", 5)

    def test_words(self):
        made = derivation(3, ("list", 2, SWAP), [((2,), "either_swap", False, SWAPPED)])
        for word in ("", "swap", "Either_swap", None, 5, (), [], {}, ("either_swap",), True, b"either_swap"):
            self.refused(BadRule(word), made, (2,), word)
            self.refused(BadRule(word), made, (2,), word, SWAP, back=True)

    def test_rules_that_do_not_fit(self):
        made = Derivation(3, ("pair", SWAP, ONE))
        self.refused(BadRule("either_swap"), made, (), "either_swap")
        self.refused(BadRule("either_swap"), made, (1,), "either_swap", SWAP)
        self.refused(BadRule("either_none"), made, (1,), "either_none", ONE)
        self.refused(BadRule("pair_swap"), made, (), "pair_swap", ("pair", SWAP, ONE))
        self.refused(BadRule("subset_one"), made, (2,), "subset_one")
        self.refused(BadRule("subset_one"), made, (2,), "subset_one", ("subset", 1))
        made.step((2,), "subset_one", ("subset", 1), back=True)
        self.refused(BadRule("subset_one"), made, (2,), "subset_one", back=True)
        self.refused(BadRule("subset_one"), made, (2,), "subset_one", ONE, back=True)

    def test_what_is_put_is_no_sort(self):
        made = Derivation(3, ("list", 0, SWAP))
        for put in (5, "one", ("one", 1), ("either", B, 5), ("list", True, ONE), TOO_MANY, deep(11), ("bag", 13), [],
                    ["either", B, ONE], ("family", 2, A), WIDE, ("either", ("subset", 2), ["one"])):
            self.refused(BadRule("either_swap"), made, (2,), "either_swap", put)
            self.refused(BadRule("either_none"), made, (2,), "either_none", put, back=True)
            self.refused(BadRule("list_empty"), made, (), "list_empty", put)

    def test_parts_that_by_themselves_would_be_refused(self):
        # Below a list of 0 things a part may pass the bounds on marks and width.
        self.assertFalse(is_sort(3, WIDE))
        made = Derivation(3, ("list", 0, ("either", WIDE, ONE)))
        for path in ((2,), (2, 1)):
            self.refused(BadRule("either_swap"), made, path, "either_swap")
            self.refused(BadRule("list_first"), made, path, "list_first", ("pair", ("bag", 2), ("list", 11, ("bag", 2))))
            self.refused(BadRule("either_none"), made, path, "either_none", ("either", WIDE, NONE), back=True)
        self.refused(BadRule("no rule"), made, (2,), "no rule")
        made.step((2, 1, 2), "bag_heap")
        self.assertEqual(made.end, ("list", 0, ("either", ("list", 12, ("heap", 2, ONE)), ONE)))
        self.assertEqual((made.carried(()), made.carried_back(())), ((), ()))
        # The whole has a list of 0 things and is a sort.
        self.refused(BadRule("list_empty"), made, (), "list_empty", back=True)
        made.step((), "list_empty")
        self.assertEqual(made.end, EMPTY)
        # Nor would the left side be one, that could be put.
        self.refused(BadRule("list_empty"), made, (), "list_empty", ("list", 0, ("either", WIDE, 5)), back=True)
        made.step((), "list_empty", ("list", 0, ("either", WIDE, ONE)), back=True)
        self.assertEqual(made.end, made.start)

    def test_the_sort_that_comes_is_refused(self):
        made = Derivation(3, ("pair", ("family", 2, ONE), ONE))
        self.refused(BadSort((1, 2)), made, (1, 2), "pair_unit", back=True)
        self.refused(BadSort((1, 2)), made, (1, 2), "heap_one", back=True)
        made = Derivation(3, deep(10, ONE))
        path = (1,) * 9
        self.refused(TooGreat(10), made, path, "either_none", back=True)
        made = Derivation(3, ("list", 12, EMPTY))
        self.refused(TooGreat(40), made, (2,), "heap_unit", ("heap", 4, EMPTY), back=True)
        made.step((2,), "heap_unit", ("heap", 3, EMPTY), back=True)
        made = Derivation(3, ("list", 3, ("list", 10, TEN)))
        self.assertEqual(how_many(3, made.start), 10 ** 30)
        made.step((2,), "list_first")
        self.refused(BadRule("either_swap"), made, (2,), "either_swap")

    def test_sixty_parts(self):
        def full(size):
            return ONE if size == 1 else ("either", full(size - size // 2), full(size // 2))

        made = Derivation(3, ("pair", full(29), EMPTY))
        self.assertEqual(len(parts(3, made.start)), 59)
        made.step((2,), "family_empty", ("family", 0, EMPTY), back=True)
        self.assertEqual(len(parts(3, made.end)), 60)
        self.refused(TooGreat(60), made, (2, 2), "family_empty", ("family", 0, EMPTY), back=True)
        self.refused(TooGreat(60), made, (1, 1, 1), "either_none", back=True)

    def test_wrong_members(self):
        made = derivation(3, SWAP, [TURN])
        for value in (*ODD_VALUES, (0, 3), (2, 0), (0, True), (False, 1), (1, 0, 1)):
            self.assert_error(BadMember(value), made.carried, value)
            self.assert_error(BadMember(value), made.carried_back, value)
        self.assert_error(BadMember((1, 2)), made.carried, (1, 2))
        self.assert_error(BadMember((0, 2)), made.carried_back, (0, 2))
        self.assertEqual(made.carried((0, 2)), (1, 2))


class OthersTest(RaisingTest):
    def test_equal(self):
        made = derivation(3, SWAP, [TURN])
        self.assertEqual(made, derivation(3, SWAP, [TURN]))
        self.assertFalse(made != derivation(3, SWAP, (TURN,)))
        for other in (derivation(3, SWAP, []), derivation(4, SWAP, [TURN]), derivation(3, SWAPPED, []), None, 5, [TURN],
                      derivation(3, SWAP, [TURN, ((), "either_swap", True, SWAP)]), (TURN,), SWAP,
                      derivation(3, SWAP, [((), "either_swap", True, SWAPPED)])):
            self.assertFalse(made == other)
            self.assertTrue(made != other)
            self.assertFalse(other == made)
        self.assertFalse(Derivation(3, SWAP) == Derivation(3, ONE))
        self.assertFalse(Derivation(3, SWAP) == Derivation(4, SWAP))
        # The same end by other steps is another derivation.
        self.assertEqual(made.end, derivation(3, SWAP, [((), "either_swap", True, SWAPPED)]).end)

    def test_joined(self):
        one = derivation(3, SWAP, [TURN])
        two = derivation(3, SWAPPED, [((1,), "subset_family", False, ("family", 2, ONE))])
        both = one.joined(two)
        self.assertEqual(both, derivation(3, SWAP, one.steps() + two.steps()))
        self.assertEqual(both.end, ("either", ("family", 2, ONE), ONE))
        for member in members(3, SWAP):
            self.assertEqual(both.carried(member), two.carried(one.carried(member)))
        self.assertEqual(one.joined(Derivation(3, SWAPPED)), one)
        for other in (one, Derivation(4, SWAPPED), Derivation(3, SWAP), None, [], two.steps(), 5):
            self.assert_error(BadPaper("start"), one.joined, other)
        self.assertEqual((len(one), len(two)), (1, 1))

    def test_joined_has_at_most_forty_steps(self):
        twenty = derivation(3, SWAP, [TURN, ((), "either_swap", False, SWAP)] * 10)
        forty = twenty.joined(twenty)
        self.assertEqual(len(forty), 40)
        self.assert_error(TooGreat(40), forty.joined, derivation(3, SWAP, [TURN]))
        self.assertEqual(forty.joined(Derivation(3, SWAP)), forty)
        self.assertEqual(Derivation(3, SWAP).joined(forty), forty)
        self.assert_error(BadPaper("start"), forty.joined, derivation(3, SWAPPED, []))

    def test_within(self):
        made = derivation(3, SWAP, [TURN, ((1,), "subset_family", False, ("family", 2, ONE))])
        whole = ("pair", A, ("list", 2, SWAP))
        found = made.within(whole, (2, 2))
        self.assertEqual((found.start, found.end), (whole, ("pair", A, ("list", 2, made.end))))
        self.assertEqual(found.steps(), [((2, 2), *TURN[1:]), ((2, 2, 1), "subset_family", False, ("family", 2, ONE))])
        for member in members(3, whole)[::7]:
            first, things = member
            self.assertEqual(found.carried(member), (first, tuple(made.carried(thing) for thing in things)))
        self.assertEqual(made.within(SWAP, ()), made)
        self.assertEqual(made.within(("list", 0, SWAP), (2,)).end, ("list", 0, made.end))
        row = derivation(3, SWAP, [TURN]).within(("heap", 2, SWAP), (2,))
        self.assertEqual(row.carried(((0, 1), (1, (0, 1)))), ((0, (0, 1)), (1, 1)))

    def test_within_is_refused(self):
        made = derivation(3, SWAP, [TURN, ((1,), "subset_family", False, ("family", 2, ONE))])
        whole = ("pair", A, ("list", 2, SWAP))
        self.assert_error(BadSort((1,)), made.within, ("pair", 5, SWAP), (2, 2))
        self.assert_error(TooGreat(10), made.within, deep(11), 5)
        for path in ((), (1,), (2,), (2, 1), (2, 2, 1), (3,), [2, 2], None, 5, "", (2, 2, 3), (2, True)):
            self.assert_error(BadPath(path), made.within, whole, path)
        # A family of things that are not single.
        self.assert_error(BadStep(1), made.within, ("heap", 2, SWAP), (2,))
        self.assert_error(BadStep(0), derivation(3, SWAP, [((1,), "heap_one", True, ("heap", 1, ONE))]).within,
                          ("heap", 2, SWAP), (2,))
        deeper = derivation(3, ONE, [((), "either_none", True, ("either", ONE, NONE)),
                                     ((1,), "either_none", True, ("either", ONE, NONE))])
        self.assert_error(BadStep(1), deeper.within, deep(9, ONE), (1,) * 8)
        self.assert_error(BadStep(0), deeper.within, deep(10, ONE), (1,) * 9)
        self.assertEqual(len(made), 2)

    def test_new_ones_do_not_change_with_the_old_one(self):
        made = derivation(3, SWAP, [TURN])
        others = [made.turned(), made.joined(Derivation(3, SWAPPED)), made.within(("list", 2, SWAP), (2,))]
        before = [rest_of(other) for other in others]
        made.undo()
        made.step((2,), "subset_family")
        self.assertEqual([rest_of(other) for other in others], before)
        for other in others:
            other.undo()
        self.assertEqual(made.steps(), [((2,), "subset_family", False, ("family", 2, ONE))])
        self.assertEqual(made.start, SWAP)

    def test_returned_lists_are_new(self):
        steps = [TURN]
        made = derivation(3, SWAP, steps)
        steps.append(5)
        made.steps().append(5)
        made.steps().clear()
        self.assertEqual(rest_of(made), (3, SWAP, SWAPPED, [TURN]))

    def test_smooth(self):
        for word, sort in (("pair_swap", ("pair", ONE, A)), ("square", ("pair", ONE, ONE)), ("rounds_again", ("rounds", 2)),
                           ("parity", ("pair", ("family", 0, ONE), ("heap", 1, ONE)))):
            made = Derivation(3, sort)
            made.step((), word)
            self.assertIs(made.is_smooth(), False)
            self.assertIs(made.turned().is_smooth(), False)
            self.assertIs(made.within(("either", ONE, sort), (2,)).is_smooth(), False)
        for whole, path, smooth in ((SWAP, (), True), (("list", 2, SWAP), (2,), True), (("family", 2, SWAP), (2,), False),
                                    (("heap", 2, SWAP), (2,), False), (("pair", ("family", 2, ONE), SWAP), (2,), True),
                                    (("list", 2, ("pair", ONE, ("heap", 2, SWAP))), (2, 2, 2), False),
                                    (("either", ("family", 1, ONE), SWAP), (2,), True),
                                    (("family", 2, ("either", ONE, SWAP)), (2, 2), False),
                                    (("either", ("family", 2, TWO_KINDS), ("heap", 2, TWO_KINDS)), (), True)):
            made = Derivation(3, whole)
            made.step(path, "either_swap")
            self.assertIs(made.is_smooth(), smooth, whole)
        made = derivation(3, ("family", 2, ("either", SWAP, ONE)), [])
        made.step((2,), "either_turn")
        self.assertIs(made.is_smooth(), True)
        made.step((2, 2), "either_swap")
        self.assertIs(made.is_smooth(), False)
        made.undo()
        self.assertIs(made.is_smooth(), True)


class DataTest(RaisingTest):
    def test_there_and_back(self):
        for seed, (many, sort) in enumerate(SMALL):
            steps = random_steps(many, sort, 6, seed + 100)
            for given in (steps, tuple(steps)):
                made = derivation(many, sort, given)
                self.assertEqual((made.many, made.start, made.steps()), (many, sort, steps))
                self.assertIsNone(check_derivation(many, sort, made.end, given))

    def test_steps_that_are_none(self):
        self.assert_error(BadMany(6), derivation, 6, 5, 5)
        self.assert_error(BadSort(()), derivation, 3, 5, 5)
        for steps in (None, 5, "", {}, {TURN}, TURN[1], True, Derivation(3, SWAP)):
            self.assert_error(BadStep(0), derivation, 3, SWAP, steps)
        back = ((), "either_swap", True, SWAP)
        for value in (None, 5, (), TURN[:3], TURN + (1,), list(TURN), ((), "either_swap", 0, SWAPPED),
                      ((), "either_swap", None, SWAPPED), ((), "either_swap", False, None), ((5,), *TURN[1:]),
                      ((), "either_swap", False, NONE), ((), "no rule", False, SWAPPED), ([], *TURN[1:]),
                      ((), [], False, SWAPPED), ((), "pair_swap", False, SWAPPED), ((), "either_swap", False, 5),
                      (None, *TURN[1:]), ((1,), "either_none", True, ("either", ONE, 5)), "step"):
            self.assert_error(BadStep(0), derivation, 3, SWAP, [value])
            self.assert_error(BadStep(2), derivation, 3, SWAP, [TURN, back, value, value])
            self.assert_error(BadStep(1), derivation, 3, SWAP, (TURN, value))
        # A step that is refused ahead of a thing that is none.
        self.assert_error(BadStep(1), derivation, 3, SWAP, [TURN, TURN, 5])
        self.assert_error(BadStep(0), derivation, 3, ("family", 2, ONE), [((2,), "heap_one", True, ("heap", 1, ONE))])

    def test_forty_and_forty_one_steps(self):
        two = [TURN, ((), "either_swap", False, SWAP)]
        self.assertEqual(len(derivation(3, SWAP, two * 20)), 40)
        self.assert_error(BadStep(40), derivation, 3, SWAP, two * 20 + [TURN])
        self.assert_error(BadStep(40), derivation, 3, SWAP, two * 20 + [5])
        self.assert_error(BadStep(3), derivation, 3, SWAP, two + [TURN, 5] + two * 20)

    def test_check(self):
        self.assertIsNone(check_derivation(3, SWAP, SWAPPED, [TURN]))
        self.assertIsNone(check_derivation(3, SWAP, SWAP, ()))
        self.assert_error(BadPaper("end"), check_derivation, 3, SWAP, SWAP, [TURN])
        self.assert_error(BadPaper("end"), check_derivation, 3, SWAP, SWAPPED, [])
        self.assert_error(BadStep(0), check_derivation, 3, SWAP, SWAP, None)
        self.assert_error(BadStep(1), check_derivation, 3, SWAP, SWAP, [TURN, TURN])
        self.assert_error(BadSort((1,)), check_derivation, 3, SWAP, ("either", 5, ONE), None)
        self.assert_error(BadSort(()), check_derivation, 3, 5, ("either", 5, ONE), None)
        self.assert_error(TooGreat(10), check_derivation, 3, SWAP, deep(11), [TURN])
        self.assert_error(BadMany(True), check_derivation, True, 5, 5, None)
