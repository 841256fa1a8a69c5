"""The whole program: promises [1], [2] and [3], and the facts that hold across its parts."""

import copy
import importlib
from collections import Counter
from itertools import combinations, permutations

from unithouse.alike import are_alike, first_apart
from unithouse.counts import counts, totals
from unithouse.derivations import Derivation, derivation
from unithouse.errors import BadMany, BadSort, TooGreat, UnitError
from unithouse.heads import heads, lengths, string_count
from unithouse.house import House
from unithouse.listing import members
from unithouse.orders import is_plain, root_counts, root_of
from unithouse.readings import transfers
from unithouse.rules import RULES, other_side
from unithouse.sheet import Sheet, whole_sheet
from unithouse.sorts import how_many, parts
from unithouse.strings import String, heads_listed, string_place
from unithouse.takenout import counted_out, last_marks, taken_out
from unithouse.tallies import Tally, tally
from unithouse.texts import member_text, read_member, read_sort, sort_text
from unithouse.turned import turned_sort
from unithouse.ways import led, way_to
from unithouse.worths import content_terms, string_terms, sum_at, telling_worths

from tests import reference
from tests.raising import RaisingTest
from tests.samples import EMPTY, NONE, ODD_VALUES, ONE, SMALL, SMALL_PLAIN, TWO_KINDS
from tests.test_interface import INTERFACE

LIST, FAMILY, PAIR = ("list", 3, ONE), ("family", 2, TWO_KINDS), ("list", 2, ONE)
WAY = (("transfer", 0, 1), ("exchange", 1, 2))
STEP = ((), "either_swap", False, ("either", ("subset", 2), ONE))
TABLE = ((1, 0, 1), (0, 1, 1))
TREE = ((0, 1), (1, 2))
SHOWN = ("sort", ("list", 2, ("subset", 1)))

# For each function of the interface something that it may be passed.
CALLS = {
    "sorts": {
        "need_many": (3,), "need_pair": (3, 2, 0), "need_sort": (3, LIST), "is_sort": (3, LIST), "is_single": (3, LIST),
        "marks": (3, LIST), "width": (3, LIST), "how_many": (3, LIST), "parts": (3, FAMILY), "part_at": (3, FAMILY, (2,)),
        "put_at": (3, FAMILY, (2, 1), EMPTY),
    },
    "codes": {
        "is_tree": (3, TREE), "is_rooted": (3, (1, TREE)), "tree_code": (3, TREE), "coded_tree": (3, (1,)),
        "rooted_code": (3, (1, TREE)), "coded_rooted": (3, (1, 1)),
    },
    "members": {
        "is_member": (3, LIST, (0, 1, 2)), "need_member": (3, LIST, (0, 1, 2)), "content_of": (3, LIST, (0, 1, 2)),
        "is_content": (3, (1, 2, 3)), "need_content": (3, (1, 2, 3)),
    },
    "listing": {
        "members": (3, LIST), "page": (3, LIST), "member_at": (3, LIST, 5), "index_of": (3, LIST, (0, 1, 2)),
    },
    "readings": {
        "reading": (3, LIST, (0, 1, 2), 0, 1), "free_brackets": (3, LIST, (0, 1, 2), 0, 1),
        "can_transfer": (3, LIST, (0, 1, 2), 0, 2), "transfer": (3, LIST, (0, 1, 0), 0, 2),
        "transfers": (3, LIST, (0, 1, 2)),
    },
    "strings": {
        "string_place": (3, LIST, (0, 1, 2), 0, 1), "is_head": (3, LIST, (0, 1, 2), 0, 1),
        "head_of": (3, LIST, (0, 1, 2), 0, 1), "string_members": (3, LIST, (0, 1, 2), 0, 1),
        "string_at": (3, LIST, (0, 0, 2), 0, 1, 1), "exchange": (3, LIST, (0, 0, 2), 0, 1),
        "heads_listed": (3, LIST, 0, 1), "String": (3, LIST, (0, 0, 2), 0, 1),
    },
    "orders": {
        "is_plain": (3, LIST), "line_of": (3, LIST, (0, 1, 2)), "exchanged": (3, LIST, (0, 0, 2), (0, 1)),
        "order_of": (3, (0, 1)), "lows_to": (3, (2, 0, 1)), "ordered": (3, LIST, (0, 0, 2), (2, 0, 1)),
        "all_orders": (3, LIST, (0, 0, 2)), "is_root": (3, LIST, (0, 0, 2)), "root_of": (3, LIST, (0, 0, 2)),
        "way_back": (3, LIST, (0, 0, 2)), "kin": (3, LIST, (0, 0, 2)), "roots": (3, LIST), "root_counts": (3, LIST),
        "carried_over": (3, LIST, (0, 2, 0), ("pair", ("subset", 2), ONE), ((0, 1), 0)),
    },
    "heads": {
        "heads": (3, LIST, 0, 1), "lengths": (3, LIST, 0, 1), "string_count": (3, LIST, 0, 1),
        "strings_at": (3, LIST, (1, 1, 1), 0, 1),
    },
    "counts": {
        "counts": (3, LIST), "count_at": (3, LIST, (1, 1, 1)), "totals": (3, LIST), "splits": (3, LIST, (1, 1, 1), 0, 1),
        "growth": (3, LIST, (1, 1, 1), 0, 1), "most_even": (3, 4), "greatest_count": (3, LIST, 3),
    },
    "tallies": {"Tally": (3, [((0, 1, 2), 5), ((0, 0, 0), 1)]), "tally": (3, LIST)},
    "takenout": {
        "taken_out": (3, LIST, 1), "last_marks": (3, LIST), "taken_apart": (3, LIST, (0, 1, 2)),
        "put_back": (3, ("bag", 2), 1, (0,)), "counted_out": (3, LIST, (1, 1, 1)),
    },
    "evenness": {
        "tops": (3, (1, 2, 3)), "is_evener": (3, (2, 2, 2), (1, 2, 3)), "sizes_of": (3, (1, 2, 3)),
        "showing_sort": (3, (1, 2, 3)), "evenness_paper": (3, (2, 2, 2), (1, 2, 3)),
        "is_evenness_paper": (3, (2, 0, 0), (1, 1, 0), SHOWN),
    },
    "ways": {
        "rows_on": (3, (2, 0, 0), WAY), "units": (3, (2, 0, 0), (1, 1, 0)), "way_to": (3, (3, 0, 0), (1, 1, 1)),
        "is_way": (3, (2, 0, 0), (1, 0, 1), WAY), "led": (3, LIST, (0, 0, 0), WAY),
        "origin": (3, LIST, (3, 0, 0), WAY, (0, 0, 2)), "fresh": (3, LIST, (3, 0, 0), WAY),
        "arisen": (3, LIST, (3, 0, 0), WAY), "way_over": (3, LIST, (3, 0, 0), WAY, WAY, (0, 0, 2)),
    },
    "alike": {
        "are_alike": (3, LIST, ("bag", 3)), "first_apart": (3, LIST, ("bag", 3)),
        "matched": (3, PAIR, ("pair", ONE, ONE), 0, 1, (0, 1)), "matching": (3, PAIR, ("pair", ONE, ONE), 0, 1),
        "check_matching": (3, ONE, ONE, 0, 1, [(0, 0), (1, 1), (2, 2)]),
    },
    "rules": {
        "fits": (3, "pair_swap", ("pair", ONE, EMPTY), ("pair", EMPTY, ONE)), "other_side": (3, "list_first", LIST),
        "member_over": (3, "square", ("pair", ONE, ONE), ("either", ("heap", 2, ONE), ("family", 2, ONE)), (2, 0)),
    },
    "derivations": {
        "Derivation": (3, TWO_KINDS), "derivation": (3, TWO_KINDS, [STEP]),
        "check_derivation": (3, TWO_KINDS, STEP[3], [STEP]),
    },
    "worths": {
        "need_worths": (3, (1, 2, 3)), "product_at": (3, (1, 2, 3), (1, 2, 3)), "even_sum": (3, (1, 2, 3), (1, 2, 3)),
        "sums_by_total": (3, LIST, (1, 2, 3)), "sum_at": (3, LIST, (1, 2, 3)), "content_terms": (3, LIST, (1, 2, 3)),
        "string_terms": (3, LIST, 0, 1, (1, 2, 3)), "head_sum": (3, LIST, 0, 1, (1, 2, 3)), "flat_sort": (3, 4),
        "transfer_terms": (3, (2, 0, 0), 0, 1, (1, 2, 3)), "parting_worths": (3, (3, 0, 0), (2, 1, 0)),
        "is_parting": (3, (3, 0, 0), (2, 1, 0), (4, 1, 1)), "test_worths": (3, 3),
        "telling_worths": (3, ("subset", 2), ("bag", 2)),
    },
    "tables": {
        "need_table": (TABLE,), "is_table": (TABLE,), "table_content": (TABLE,), "table_sizes": (TABLE,),
        "table_sort": (TABLE,), "table_member": (TABLE,), "member_table": (3, ("pair", ("bag", 1), ("bag", 1)), ((0,), (1,))),
        "all_tables": ((2, 1), (1, 1, 1)), "name_reading": (TABLE, 0, 1), "column_reading": (TABLE, 0, 1),
        "transfer_names": (((1, 0), (0, 0)), 0, 1), "transfer_columns": (((1, 0), (0, 0)), 0, 1), "exchange_names": (TABLE, 0, 1),
        "exchange_columns": (TABLE, 0, 1),
    },
    "corners": {
        "is_corner": (TABLE,), "names_root": (TABLE,), "columns_root": (TABLE,), "corner": (TABLE,),
        "joined_roots": (((1, 1), (0, 0)), ((1, 1), (0, 0))), "rectangle": (TABLE, 0, 1), "rectangle_place": (TABLE, 0, 1),
    },
    "turned": {
        "quarter_turn": (TABLE,), "quarter_back": (TABLE,), "transposed": (TABLE,), "turned_sort": (3, LIST),
        "turned_member": (3, LIST, (0, 1, 2)), "layers": (3, LIST, (0, 1, 2)),
    },
    "house": {"House": (3, ((LIST, (0, 0, 1)),))},
    "texts": {
        "sort_text": (3, LIST), "read_sort": (3, "list 3 of one"), "member_text": (3, LIST, (0, 1, 2)),
        "read_member": (3, LIST, "a b c"), "content_text": (3, (1, 2, 3)), "read_content": (3, "1 2 3"),
        "way_text": (3, WAY), "read_way": (3, "transfer a b"), "derivation_text": (3, [STEP]),
        "read_derivation": (3, "square as one"),
    },
    "sheet": {"Sheet": ("names 3\nsort S is one\nsay S members 3",), "whole_sheet": (3, ONE)},
}

# What has a keyword that must be told.
SIGNED = ("tables", "corners")


def names_of(file):
    """Return the names of the functions and classes of a file of the interface."""
    return [name for name in INTERFACE[file] if "." not in name]


def all_calls():
    """Return the list of tuples (function, arguments, keywords)."""
    found = []
    for file, calls in CALLS.items():
        module = importlib.import_module(f"unithouse.{file}")
        for name, passed in calls.items():
            named = {"sign": True} if file in SIGNED and name != "member_table" else {}
            found.append((getattr(module, name), passed, named))
    return found


def spoil(value):
    """Change each list and dict in a value."""
    if isinstance(value, (list, tuple)):
        for thing in value:
            spoil(thing)
    if isinstance(value, list):
        value.clear()
        value.append("spoiled")
    if isinstance(value, dict):
        value.clear()
        value["spoiled"] = 1


class CallsTest(RaisingTest):
    def test_each_function_is_called(self):
        for file, names in INTERFACE.items():
            self.assertEqual(sorted(CALLS[file]), sorted(names_of(file)))

    def test_equal_calls_and_what_is_done_to_results(self):
        for call, passed, named in all_calls():
            before = copy.deepcopy(passed)
            found = call(*passed, **named)
            self.assertEqual(passed, before, call)
            self.assertEqual(call(*passed, **named), found, call)
            kept = copy.deepcopy(found)
            spoil(found)
            self.assertEqual(call(*passed, **named), kept, call)
            self.assertEqual(passed, before, call)

    def test_what_is_passed_may_be_changed_behind_a_call(self):
        for call, passed, named in all_calls():
            mine = copy.deepcopy(passed)
            found = call(*mine, **named)
            kept = copy.deepcopy(found)
            spoil([one for one in mine if isinstance(one, (list, dict))])
            self.assertEqual(found, kept, call)

    def test_arguments_by_their_names(self):
        for file, names in INTERFACE.items():
            module = importlib.import_module(f"unithouse.{file}")
            for name in names_of(file):
                call, passed = getattr(module, name), CALLS[file][name]
                words = [word.split("=")[0] for word in names[name].split("*")[0].split(", ") if word]
                named = {"sign": True} if file in SIGNED and name != "member_table" else {}
                self.assertEqual(call(**dict(zip(words, passed)), **named), call(*passed, **named))

    def test_methods(self):
        for made in (tally(3, LIST), derivation(3, TWO_KINDS, [STEP]), House(3, ((LIST, (0, 0, 1)),)),
                     Sheet(whole_sheet(3, ONE)), String(3, LIST, (0, 0, 1), 0, 1)):
            kept = copy.deepcopy(made)
            for name, passed in (("entries", ()), ("steps", ()), ("state", ()), ("contents", ()), ("log", ()),
                                 ("offsets", ()), ("turned", ()), ("chosen", (2,)), ("heaped", (2,)), ("chain", (0, 1)),
                                 ("reached", ((0, 1),)), ("named", ("S",)), ("trial", (WAY,)), ("is_smooth", ()),
                                 ("all_true", ()), ("copy", ()), ("at", ((1, 1, 1) if isinstance(made, Tally) else 1,))):
                if hasattr(made, name):
                    found = getattr(made, name)(*passed)
                    spoil(found)
                    self.assertEqual(getattr(made, name)(*passed), getattr(kept, name)(*passed))
            if not isinstance(made, Tally):
                spoil(list(made))
            self.assertEqual(made, kept)

    def test_many_comes_first_and_the_sort_next(self):
        for file, names in INTERFACE.items():
            module = importlib.import_module(f"unithouse.{file}")
            for name in names_of(file):
                call, passed = getattr(module, name), CALLS[file][name]
                words = [word.split("=")[0] for word in names[name].split("*")[0].split(", ") if word]
                if words[0] != "many":
                    continue
                for value in (*ODD_VALUES, 1, 6, 0, -3):
                    self.assert_error(BadMany(value), call, value, *[None] * (len(passed) - 1))
                if words[1:2] == ["sort"]:
                    for value in (5, None, ("none", 1), ["one"]):
                        self.assert_error(BadSort(()), call, 3, value, *[None] * (len(passed) - 2))
                    self.assert_error(BadSort((2,)), call, 3, ("pair", ONE, 5), *[None] * (len(passed) - 2))


class FactsTest(RaisingTest):
    def test_lists_counts_heads_and_worths_tell_the_same(self):
        for many, sort in SMALL:
            found = members(many, sort)
            self.assertEqual(found, reference.all_members(many, sort))
            contents = Counter(reference.content(many, sort, member) for member in found)
            self.assertEqual(dict(counts(many, sort)), dict(contents))
            self.assertEqual(dict(totals(many, sort)), dict(Counter(sum(content) for content in contents.elements())))
            self.assertEqual(tally(many, sort).total(), how_many(many, sort))
            ones = (1,) * many
            self.assertEqual(sum_at(many, sort, ones), len(found))
            self.assertEqual(sum(count * value for _, count, value in content_terms(many, sort, ones)), len(found))
            if many > 2:
                self.check_taken_out(many, sort, contents)
            for low, high in combinations(range(many), 2):
                tops = heads_listed(many, sort, low, high)
                self.assertEqual(string_count(many, sort, low, high), len(tops))
                self.assertEqual(dict(heads(many, sort, low, high)),
                                 dict(Counter(reference.content(many, sort, head) for head in tops)))
                self.assertEqual(lengths(many, sort, low, high), dict(sorted(Counter(
                    string_place(many, sort, head, low, high)[1] for head in tops).items())))
                for content, count, value in string_terms(many, sort, low, high, ones):
                    self.assertEqual(value, content[low] - content[high] + 1)
                    self.assertEqual(dict(heads(many, sort, low, high))[content], count)

    def check_taken_out(self, many, sort, contents):
        """Check what is told of a sort without its last name, where this is no sort that is too great."""
        try:
            taken = [how_many(many - 1, taken_out(many, sort, own)) for own in last_marks(many, sort)]
            self.assertEqual(sum(taken), sum(contents.values()))
        except TooGreat:
            pass
        for content in contents:
            try:
                self.assertEqual(counted_out(many, sort, content), contents[content])
            except TooGreat:
                pass

    def test_roots_and_counts_tell_the_same_of_alike_sorts(self):
        for (many, sort), (number, other) in combinations(SMALL_PLAIN, 2):
            if many == number:
                self.assertEqual(root_counts(many, sort) == root_counts(many, other), are_alike(many, sort, other))
                self.assertEqual(telling_worths(many, sort, other) is None, are_alike(many, sort, other))
                self.assertEqual(tally(many, sort) == tally(many, other), are_alike(many, sort, other))
                self.assertEqual(first_apart(many, sort, other) is None, are_alike(many, sort, other))

    def test_rules_keep_heads_and_sums(self):
        for many, sort in SMALL:
            for path, part in parts(many, sort):
                for word in RULES:
                    side = other_side(many, word, part)
                    if side is None:
                        continue
                    made = Derivation(many, sort)
                    try:
                        made.step(path, word)
                    except UnitError:
                        continue
                    self.assertEqual(tally(many, made.end), tally(many, sort))
                    self.assertEqual(heads(many, made.end, 0, 1), heads(many, sort, 0, 1))
                    worths = (3, -2, 5, 0, 7)[:many]
                    self.assertEqual(sum_at(many, made.end, worths), sum_at(many, sort, worths))
                    self.assertEqual(read_sort(many, sort_text(many, made.end)), made.end)

    def test_houses_ways_and_texts_tell_the_same(self):
        for many, sort in SMALL:
            for member in reference.all_members(many, sort)[::4]:
                house = House(many, ((sort, member),))
                for low, high in combinations(range(many), 2):
                    self.assertEqual(house.chain(low, high),
                                     tuple((one,) for one in String(many, sort, member, low, high)))
                deeds = [(giver, taker, (led,)) for giver, taker, led in transfers(many, sort, member)]
                there = []
                for giver, taker in permutations(range(many), 2):
                    if not house.stuck(giver, taker):
                        there.append((giver, taker, house.trial((("transfer", giver, taker),))[1]))
                self.assertEqual(there, deeds)
                start = house.contents()[0]
                way = way_to(many, start, tuple(sorted(start)))
                house.follow(way)
                self.assertEqual(house.state(), (led(many, sort, member, way),))
                self.assertEqual(read_member(many, sort, member_text(many, sort, house.state()[0])), house.state()[0])

    def test_sheets_of_what_else_is_told(self):
        for many, sort in SMALL:
            lines = [f"names {many}", f"sort S is {sort_text(many, sort)}", f"say S members {how_many(many, sort)}"]
            for content, count in counts(many, sort)[:9]:
                lines.append(f"say S at {' '.join(map(str, content))} members {count}")
                lines.append(f"deny S at {' '.join(map(str, content))} members {count + 1}")
            for at, member in enumerate(members(many, sort)[:5]):
                lines.append(f"member P{at} of S is {member_text(many, sort, member)}")
                if is_plain(many, sort):
                    root = root_of(many, sort, member)
                    lines.append(f"member R{at} of S is {member_text(many, sort, root)}")
                    lines.append(f"say R{at} transfer b a none")
            for other in (NONE, ONE, sort):
                lines.append(f"{'say' if are_alike(many, sort, other) else 'deny'} S like {sort_text(many, other)}")
            try:
                turned = turned_sort(many, sort)
                lines += [f"sort T is {sort_text(many, turned)}", f"say T members {how_many(many, sort)}"]
            except UnitError:
                pass
            sheet = Sheet("\n".join(lines))
            self.assertIs(sheet.all_true(), True)
            self.assertEqual(Sheet(str(sheet)), sheet)
