"""Houses: promises [70] to [74]."""

from itertools import permutations, product

from unithouse.errors import (BadIndex, BadKeep, BadMany, BadMember, BadName, BadSort, BadStep, BadWay, NoFree,
                              NothingBack, SameName, TooGreat, UnitError)
from unithouse.house import House
from unithouse.listing import member_at
from unithouse.members import content_of
from unithouse.sorts import how_many

from tests import reference
from tests.raising import RaisingTest
from tests.reference_house import PlainHouse
from tests.samples import EMPTY, GREATEST, NONE, ODD_VALUES, ONE, SMALL, TOO_MANY, TWO_KINDS, deep

LIST, BAG, PAIR = ("list", 3, ONE), ("bag", 3), ("list", 2, ONE)
EXAMPLE = ((ONE, 0), (PAIR, (0, 0)))
TRANSFER, EXCHANGE = ("transfer", 0, 1), ("exchange", 0, 1)
MANY_ROOMS = ((LIST, (0, 0, 1)), (BAG, (0, 0, 2)), (("heap", 2, TWO_KINDS), ((0, 0), (1, (0, 1)))),
              (("rooted",), (0, ((0, 1), (0, 2)))), (("rounds", 1), ((0,), (0,), (1,))),
              (("family", 2, TWO_KINDS), ((0, 0), (1, (0, 2)))))

# Rooms of one to six, with and without keeps.
HOUSES = (
    (2, EXAMPLE, ()),
    (3, ((LIST, (0, 1, 2)),), ()),
    (3, ((LIST, (0, 1, 2)),), ((0, 0, 0, 1),)),
    (3, ((LIST, (0, 0, 2)), (BAG, (0, 0, 1))), ()),
    (3, ((LIST, (0, 0, 2)), (BAG, (0, 0, 1))), ((1, 0, 1, 24), (0, 2, 1, 1))),
    (4, ((("trees",), ((0, 1), (0, 2), (0, 3))), (("family", 2, ("subset", 2)), ((0, 1), (0, 2)))), ()),
    (3, ((EMPTY, ()), (LIST, (0, 0, 0))), ()),
    (3, ((("rounds", 2), ((0, 0), (0, 0), (1, 1))), (LIST, (0, 0, 1))), ((0, 0, 2, 4),)),
    (3, MANY_ROOMS, ()),
    (3, MANY_ROOMS, ((5, 0, 1, 2), (0, 1, 0, 2), (0, 1, 0, 2))),
    (3, MANY_ROOMS[:4], ((2, 0, 0, 24),) * 12),
    (3, MANY_ROOMS[1:], ()),
    (2, ((("bag", 4), (0, 0, 0, 1)), (("list", 4, ONE), (0, 0, 1, 0)), (("heap", 4, ONE), (0, 0, 0, 1))), ()),
    (5, ((("subset", 2), (0, 1)), (("rooted",), (0, ((0, 1), (0, 2), (0, 3), (0, 4))))), ()),
)
NO_WAYS = (None, 5, "", [], [TRANSFER], {}, "transfer", True)
NO_DEEDS = (None, 5, (), ("transfer", 0), ("transfer", 0, 1, 2), ["transfer", 0, 1], ("transfer", 0, 0),
            ("exchange", 0, 3), ("swap", 0, 1), ("transfer", 0, True), ([], 0, 1))


def told(house):
    """Return all that deeds may change."""
    return house.state(), house.contents(), house.log(), house.offsets()


def all_deeds(many):
    return [(word, one, other) for word in ("transfer", "exchange") for one, other in permutations(range(many), 2)]


def lead(house, deed):
    word, one, other = deed
    return house.transfer(one, other) if word == "transfer" else house.exchange(one, other)


def houses():
    """Return the list of tuples (house, plain house)."""
    return [(House(many, rooms, keeps=keeps), PlainHouse(many, rooms, keeps)) for many, rooms, keeps in HOUSES]


class MakeTest(RaisingTest):
    def test_what_it_tells(self):
        for many, rooms, keeps in HOUSES:
            house = House(many, rooms, keeps=keeps)
            contents = tuple(reference.content(many, sort, member) for sort, member in rooms)
            self.assertEqual(house.many, many)
            self.assertEqual(house.sorts, tuple(sort for sort, _ in rooms))
            self.assertEqual(house.sums, tuple(sum(content) for content in contents))
            self.assertEqual(house.keeps, keeps)
            self.assertEqual(house.state(), tuple(member for _, member in rooms))
            self.assertEqual(house.contents(), contents)
            self.assertEqual(house.log(), ())
            self.assertEqual((len(house), list(house)), (len(rooms), [member for _, member in rooms]))
            self.assertEqual(house.offsets(), tuple(tuple(content[name] - contents[0][name] for content in contents[1:])
                                                    for name in range(many)))

    def test_example(self):
        house = House(2, EXAMPLE)
        self.assertEqual(house.offsets(), ((1,), (0,)))
        self.assertEqual(house.chain(0, 1), ((0, (0, 0)), (1, (1, 0))))
        self.assertEqual(house.reached((0, 1)), ((0, (0, 0)), (0, (1, 0)), (1, (1, 0)), (1, (1, 1))))
        self.assertIsNone(house.transfer(0, 1))
        self.assertEqual(house.stuck(0, 1), (0,))

    def test_rooms_that_are_none(self):
        self.assert_error(BadMany(1), House, 1, 5, keeps=5)
        self.assert_error(BadMany(True), House, True, EXAMPLE)
        for rooms in (None, 5, (), [], [(ONE, 0)], EXAMPLE * 4, "", {}, ((ONE, 0),) * 7, True):
            self.assert_error(BadSort(()), House, 2, rooms, keeps=5)
        for room in (None, 5, (), (ONE,), (ONE, 0, 0), [ONE, 0], "ab", {}):
            for place in range(6):
                rooms = ((ONE, 0),) * place + (room,) + ((5, 5),) * (5 - place)
                self.assert_error(BadSort((place,)), House, 2, rooms, keeps=5)
        for sort, path in ((5, ()), (None, ()), (("either", ONE, 5), (2,)), (("list", 2, ("family", 1, BAG)), (2, 2)),
                           (("bag", True), ())):
            for place in range(3):
                rooms = ((ONE, 0),) * place + ((sort, None), 5)
                self.assert_error(BadSort((place, 0) + path), House, 2, rooms)
        for sort, most in ((deep(11), 10), (("list", 12, ("bag", 2)), 12), (TOO_MANY, 10 ** 30),
                           (("list", 7, ("list", 6, EMPTY)), 40)):
            self.assert_error(TooGreat(most), House, 3, ((ONE, 0), (sort, None), (5, 5)))
        for value in (2, *ODD_VALUES):
            self.assert_error(BadMember(value), House, 2, ((ONE, 0), (ONE, value), (5, 5)), keeps=5)
        self.assert_error(BadMember(0), House, 2, ((NONE, 0),), keeps=5)
        self.assert_error(BadMember((0, True)), House, 2, ((PAIR, (0, True)),))

    def test_keeps_that_are_none(self):
        for keeps in (None, 5, [], [(0, 0, 0, 24)], "", {}, True):
            self.assert_error(BadKeep(0), House, 2, EXAMPLE, keeps=keeps)
        keep = (1, 0, 2, 24)
        self.assertEqual(House(2, EXAMPLE, keeps=(keep,) * 12).keeps, (keep,) * 12)
        self.assert_error(BadKeep(12), House, 2, EXAMPLE, keeps=(keep,) * 13)
        self.assert_error(BadKeep(12), House, 2, EXAMPLE, keeps=(None,) + (keep,) * 12)
        for value in (None, 5, (), keep[:3], keep + (0,), list(keep), (2, 0, 0, 24), (-1, 0, 0, 24), (1, 2, 0, 24),
                      (1, 0, -1, 24), (1, 0, 0, 25), (1, 0, 25, 24), (True, 0, 0, 24), (1, False, 0, 24), (1, 0, 0, True),
                      (1, 0, False, 24), (1, 0, 0.0, 24), (None, 0, 0, 24),
                      # These do not hold at the start.
                      (1, 0, 3, 24), (1, 0, 0, 1), (0, 1, 1, 1), (1, 0, 3, 1), (0, 0, 2, 0)):
            for place in (0, 3, 11):
                keeps = (keep,) * place + (value,) + (None,) * (11 - place)
                self.assert_error(BadKeep(place), House, 2, EXAMPLE, keeps=keeps)
        self.assertEqual(House(2, EXAMPLE, keeps=()).keeps, ())

    def test_keeps_are_passed_by_name_alone(self):
        with self.assertRaises(TypeError):
            House(2, EXAMPLE, ())

    def test_equal(self):
        house = House(2, EXAMPLE)
        keep = (0, 0, 0, 24)
        self.assertTrue(house == House(2, EXAMPLE))
        for other in (House(3, EXAMPLE), House(2, EXAMPLE[:1]), House(2, EXAMPLE, keeps=(keep,)), House(2, EXAMPLE[::-1]),
                      House(2, ((ONE, 1), EXAMPLE[1])), House(2, ((("bag", 1), (0,)), EXAMPLE[1])), None, EXAMPLE, 5,
                      house.state()):
            self.assertFalse(house == other)
            self.assertTrue(house != other)
        self.assertFalse(House(2, EXAMPLE, keeps=(keep,)) == House(2, EXAMPLE, keeps=(keep, keep)))
        # A member of one sort may be one of another sort, too.
        self.assertFalse(House(2, ((("bag", 1), (0,)),)) == House(2, ((("subset", 1), (0,)),)))
        # The logs do not matter.
        other = House(2, EXAMPLE)
        other.exchange(0, 1)
        self.assertFalse(house == other)
        other.exchange(0, 1)
        self.assertTrue(house == other)
        self.assertNotEqual(house.log(), other.log())


class DeedsTest(RaisingTest):
    def test_all_rows_of_two_deeds(self):
        for start, plain in houses():
            deeds = all_deeds(start.many)
            for one, two in product(deeds[::2 if start.many < 4 else 5], deeds[::3]):
                house, state, log = start.copy(), start.state(), ()
                for deed in (one, two):
                    behind, why = plain.behind(state, deed)
                    before = told(house)
                    if why is None:
                        self.assertIsNone(lead(house, deed))
                        state, log = behind, log + (deed,)
                    elif why == "free":
                        self.assert_error(NoFree(*deed[1:]), lead, house, deed)
                        self.assertEqual(told(house), before)
                    else:
                        self.assert_error(BadKeep(why), lead, house, deed)
                        self.assertEqual(told(house), before)
                    self.assertEqual((house.state(), house.log()), (state, log))
                    self.assertEqual(house.contents(), tuple(
                        reference.content(house.many, sort, member) for sort, member in zip(house.sorts, state)))
                    self.assertEqual(list(house), list(state))
                self.assertEqual((house.sums, house.sorts, house.keeps), (start.sums, start.sorts, start.keeps))

    def test_there_and_back(self):
        for start, _ in houses():
            for deed in all_deeds(start.many):
                house = start.copy()
                offsets = house.offsets()
                word, one, other = deed
                try:
                    lead(house, deed)
                except UnitError:
                    continue
                if word == "transfer":
                    self.assertEqual(house.offsets(), offsets)
                    house.transfer(other, one)
                else:
                    changed = list(offsets)
                    changed[one], changed[other] = changed[other], changed[one]
                    self.assertEqual(house.offsets(), tuple(changed))
                    house.exchange(other, one)
                self.assertEqual(house, start)

    def test_led_if_in_each_room(self):
        for many, rooms, keeps in HOUSES:
            if keeps:
                continue
            for deed in all_deeds(many):
                alone = []
                for room in rooms:
                    one = House(many, (room,))
                    try:
                        lead(one, deed)
                        alone.append(one.state()[0])
                    except NoFree:
                        alone.append(None)
                house = House(many, rooms)
                if deed[0] == "transfer":
                    self.assertEqual(house.stuck(*deed[1:]), tuple(at for at, led in enumerate(alone) if led is None))
                    if all(content[deed[1]] > content[deed[2]] for content in house.contents()):
                        self.assertNotIn(None, alone)
                if None in alone:
                    self.assert_error(NoFree(*deed[1:]), lead, house, deed)
                else:
                    lead(house, deed)
                    self.assertEqual(house.state(), tuple(alone))

    def test_refused_in_one_room_alone(self):
        house = House(3, ((LIST, (0, 0, 0)), (ONE, 1), (LIST, (0, 0, 2))))
        self.assertEqual(house.stuck(0, 1), (1,))
        self.assert_error(NoFree(0, 1), house.transfer, 0, 1)
        self.assertEqual(house.stuck(1, 0), (0, 2))
        self.assertEqual(house.stuck(0, 2), (1,))
        self.assertEqual(house.stuck(2, 1), (0, 1))
        self.assertEqual(house.how_far(0, 1), 0)

    def test_refused_by_a_keep(self):
        house = House(3, ((LIST, (0, 0, 0)), (LIST, (0, 0, 2))), keeps=((0, 1, 0, 24), (1, 0, 1, 24), (0, 0, 1, 3)))
        self.assertEqual(house.how_far(0, 1), 1)
        house.transfer(0, 1)
        self.assertEqual(house.stuck(0, 1), ())
        self.assert_error(BadKeep(1), house.transfer, 0, 1)
        # The last keep holds no more in the new state either, but stands behind.
        house = House(3, ((LIST, (0, 0, 1)), (LIST, (0, 0, 2))), keeps=((1, 0, 2, 24), (0, 1, 0, 1)))
        self.assert_error(BadKeep(0), house.transfer, 0, 1)
        self.assert_error(BadKeep(0), house.exchange, 0, 1)
        house = House(3, ((LIST, (0, 0, 1)),), keeps=((0, 2, 0, 0), (0, 0, 2, 2), (0, 1, 1, 1)))
        self.assert_error(BadKeep(0), house.exchange, 0, 2)
        self.assert_error(BadKeep(1), house.exchange, 0, 1)
        self.assert_error(BadKeep(0), house.transfer, 1, 2)
        self.assert_error(BadKeep(1), house.transfer, 0, 1)
        self.assertEqual(house.reached((0, 1, 2)), (house.state(),))
        # No transfer comes ahead of a keep that would not hold.
        self.assert_error(NoFree(2, 0), house.transfer, 2, 0)
        self.assert_error(NoFree(1, 0), house.transfer, 1, 0)

    def test_how_far_and_chain(self):
        for start, plain in houses():
            for one, other in permutations(range(start.many), 2):
                house = start.copy()
                far = plain.far(start.state(), one, other)
                self.assertEqual(house.how_far(one, other), len(far))
                low, high = min(one, other), max(one, other)
                chain = plain.chain(low, high)
                self.assertEqual(house.chain(one, other), chain)
                self.assertEqual(told(house), told(start))
                self.assertEqual(chain.index(house.state()), house.how_far(high, low))
                self.assertEqual(len(chain) - 1 - chain.index(house.state()), house.how_far(low, high))
                for state in far:
                    house.transfer(one, other)
                    self.assertEqual(house.state(), state)
                    self.assertEqual(house.chain(one, other), chain)
                self.assertEqual(house.log(), (("transfer", one, other),) * len(far))

    def test_undo(self):
        for start, _ in houses():
            house, before = start.copy(), []
            for deed in all_deeds(start.many) * 2:
                try:
                    state = house.state()
                    lead(house, deed)
                    before.append((state, house.log()[:-1]))
                except UnitError:
                    pass
            while before:
                self.assertIsNone(house.undo())
                self.assertEqual((house.state(), house.log()), before.pop())
            self.assert_error(NothingBack(), house.undo)
            self.assert_error(NothingBack(), house.undo)
            self.assertEqual(told(house), told(start))

    def test_copy(self):
        for start, _ in houses():
            house = start.copy()
            if not house.keeps:
                house.exchange(0, 1)
            twin = house.copy()
            self.assertIsNot(twin, house)
            self.assertEqual(twin, house)
            self.assertEqual((told(twin), twin.sums, twin.keeps), (told(house), house.sums, house.keeps))
            kept = told(house)
            for deed in all_deeds(house.many):
                try:
                    lead(twin, deed)
                except UnitError:
                    pass
            self.assertEqual(told(house), kept)
            kept = told(twin)
            if house.log():
                house.undo()
            self.assertEqual(told(twin), kept)
            while twin.log():
                twin.undo()
            self.assertEqual(twin, start)

    def test_errors_of_names(self):
        house = House(3, MANY_ROOMS)
        for call in (house.transfer, house.exchange, house.stuck, house.how_far, house.chain):
            for value in (3, -1, *ODD_VALUES):
                self.assert_error(BadName(value), call, value, None)
                self.assert_error(BadName(value), call, 0, value)
                self.assert_error(BadName(value), call, value, value)
            self.assert_error(SameName(2), call, 2, 2)
        self.assertEqual(told(house), told(House(3, MANY_ROOMS)))


class WaysTest(RaisingTest):
    def test_follow_and_trial(self):
        for start, plain in houses():
            deeds = all_deeds(start.many)
            for seed in range(8):
                way = tuple(deeds[(seed * 7 + at * (seed + 3)) % len(deeds)] for at in range(seed))
                state, led = start.state(), 0
                for deed in way:
                    behind = plain.behind(state, deed)[0]
                    if behind is None:
                        break
                    state, led = behind, led + 1
                house = start.copy()
                self.assertEqual(house.trial(way), (led, state))
                self.assertEqual(told(house), told(start))
                if led < len(way):
                    self.assert_error(BadStep(led), house.follow, way)
                    self.assertEqual(told(house), told(start))
                else:
                    self.assertIsNone(house.follow(way))
                    self.assertEqual((house.state(), house.log()), (state, way))
                    for count in range(len(way) - 1, -1, -1):
                        house.undo()
                        self.assertEqual(house.log(), way[:count])
                    self.assertEqual(told(house), told(start))

    def test_behind_other_deeds(self):
        house = House(3, ((LIST, (0, 0, 0)),))
        house.transfer(0, 2)
        house.follow((("transfer", 0, 1), ("exchange", 1, 2)))
        self.assertEqual(house.log(), (("transfer", 0, 2), ("transfer", 0, 1), ("exchange", 1, 2)))
        self.assert_error(BadStep(1), house.follow, (("transfer", 0, 1), ("transfer", 0, 1), None)[:2])
        house.follow(())
        self.assertEqual(len(house.log()), 3)
        house.undo()
        self.assertEqual(house.log(), (("transfer", 0, 2), ("transfer", 0, 1)))

    def test_a_deed_that_a_keep_refuses(self):
        house = House(3, ((LIST, (0, 0, 0)),), keeps=((0, 0, 2, 3),))
        way = (("transfer", 0, 1), ("transfer", 0, 2), ("transfer", 1, 0))
        self.assertEqual(house.trial(way), (1, ((1, 0, 0),)))
        self.assert_error(BadStep(1), house.follow, way)
        self.assertEqual(house.log(), ())

    def test_sixty_deeds(self):
        house = House(2, EXAMPLE)
        self.assertEqual(house.trial((EXCHANGE,) * 60), (60, house.state()))
        house.follow((EXCHANGE,) * 60)
        self.assertEqual(len(house.log()), 60)
        house.follow((EXCHANGE,) * 60)
        self.assertEqual(len(house.log()), 120)
        for call in (house.follow, house.trial):
            self.assert_error(BadWay(60), call, (EXCHANGE,) * 61)
            self.assert_error(BadWay(60), call, (None,) * 61)
        self.assertEqual(len(house.log()), 120)

    def test_what_is_no_way(self):
        house = House(3, ((LIST, (0, 0, 0)),))
        for call in (house.follow, house.trial):
            for way in NO_WAYS:
                self.assert_error(BadWay(0), call, way)
            for value in NO_DEEDS:
                for place in (0, 2):
                    way = (EXCHANGE,) * place + (value, value)
                    self.assert_error(BadWay(place), call, way)
            # A thing that is no deed comes ahead of a deed that is refused.
            self.assert_error(BadWay(1), call, (("transfer", 1, 0), None))
        self.assertEqual(told(house), told(House(3, ((LIST, (0, 0, 0)),))))


class ReachedTest(RaisingTest):
    def test_all_states(self):
        for start, plain in houses():
            for names in ((), (0,), (0, 1), (start.many - 1, 0), tuple(range(start.many))):
                wanted = plain.reached(names, 200)
                if wanted is None:
                    self.assert_error(TooGreat(200), start.reached, names)
                    continue
                self.assertEqual(start.reached(names), wanted)
                self.assertEqual(start.reached(names, most=max(len(wanted), 1)), wanted)
                if len(wanted) > 1:
                    self.assert_error(TooGreat(len(wanted) - 1), start.reached, names, most=len(wanted) - 1)
                for state in wanted[::9]:
                    rooms = tuple(zip(start.sorts, state))
                    self.assertEqual(House(start.many, rooms, keeps=start.keeps).reached(names), wanted)
                self.assertEqual(start.log(), ())

    def test_two_names(self):
        # As many as the chain has, or twice as many if the differences of the marks are unlike.
        for many, rooms, keeps in HOUSES:
            if keeps:
                continue
            house = House(many, rooms)
            for low, high in ((0, 1), (1, many - 1), (0, many - 1)):
                if low == high:
                    continue
                differences = {content[low] - content[high] for content in house.contents()}
                count = len(house.chain(low, high)) * (1 if len(differences) == 1 else 2)
                self.assertEqual(len(house.reached((high, low))), count)

    def test_one_room(self):
        # Evener contents are reached no less often, and as often with two names exchanged.
        for many, sort in SMALL:
            if how_many(many, sort) > 200:
                continue
            seen = set()
            for member in reference.all_members(many, sort):
                if member in seen:
                    continue
                states = House(many, ((sort, member),)).reached(tuple(range(many)))
                seen.update(state for state, in states)
                contents = [content_of(many, sort, state) for state, in states]
                for content in set(contents):
                    for one, other in permutations(range(many), 2):
                        changed = list(content)
                        changed[one], changed[other] = content[other], content[one]
                        self.assertEqual(contents.count(tuple(changed)), contents.count(content))
                        if content[one] > content[other]:
                            changed = list(content)
                            changed[one] -= 1
                            changed[other] += 1
                            self.assertGreaterEqual(contents.count(tuple(changed)), contents.count(content))
            self.assertEqual(seen, set(reference.all_members(many, sort)))

    def test_limit(self):
        house = House(2, EXAMPLE)
        self.assert_error(TooGreat(3), house.reached, (0, 1), most=3)
        self.assertEqual(len(house.reached((0, 1), most=4)), 4)
        self.assert_error(TooGreat(1), house.reached, (0, 1), most=1)
        self.assertEqual(house.reached((1,), most=1), (house.state(),))
        self.assertEqual(house.reached((), most=1), (house.state(),))

    def test_two_hundred_states(self):
        # All members are reached, just 200.
        sort = ("pair", ("bag", 2), ("bag", 3))
        for index in (0, 100):
            house = House(4, ((sort, member_at(4, sort, index)),))
            states = tuple((member,) for member in reference.all_members(4, sort))
            self.assertEqual(len(states), 200)
            self.assertEqual(house.reached((3, 1, 0, 2)), states)
            self.assertEqual(house.reached((0, 1, 2, 3), most=200), states)
            self.assert_error(TooGreat(199), house.reached, (0, 1, 2, 3), most=199)
        # All members but one are reached, 255.
        house = House(4, ((("list", 4, ONE), (0, 0, 0, 0)),))
        self.assert_error(TooGreat(200), house.reached, (0, 1, 2, 3))
        self.assert_error(TooGreat(200), house.reached, (0, 1, 2, 3), most=200)

    def test_great_rooms(self):
        house = House(3, ((GREATEST, member_at(3, GREATEST, 12345)), (LIST, (0, 0, 1))))
        self.assertEqual(house.stuck(0, 1), (0,))
        self.assertEqual(house.reached((0, 1)), house.reached((1, 0)))
        self.assertEqual(len(house.reached((0, 1))), 2)
        # Members may be nested deep.
        sort = ("list", 1, ("pair", ("list", 1, ("pair", ("list", 1, ("pair", ("list", 2, ONE), ONE)), EMPTY)), EMPTY))
        house = House(2, ((sort, member_at(2, sort, 0)),) * 2)
        self.assertEqual(len(house.reached((0, 1))), 4)

    def test_errors_in_their_order(self):
        house = House(3, EXAMPLE)
        for names in (None, 5, [], [0, 1], "ab", {}, {0, 1}, True, 0):
            self.assert_error(BadName(names), house.reached, names, most=None)
        for value in (3, -1, True, None, "a", 0.0, (0,)):
            self.assert_error(BadName(value), house.reached, (0, value), most=None)
            self.assert_error(BadName(value), house.reached, (0, 0, value, 5), most=None)
        self.assert_error(SameName(0), house.reached, (0, 0), most=None)
        self.assert_error(SameName(1), house.reached, (0, 1, 2, 1, 0), most=None)
        for most in (0, 201, -1, *ODD_VALUES):
            self.assert_error(BadIndex(most), house.reached, (0, 1), most=most)
        self.assert_error(TooGreat(2), house.reached, (0, 1, 2), most=2)
        with self.assertRaises(TypeError):
            house.reached((0, 1), 200)
