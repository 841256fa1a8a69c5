"""The interface: each name is defined in the file under which the document lists it, with its parameters."""

import importlib
import inspect
import pathlib
import subprocess
import sys
import unittest

PACKAGE = pathlib.Path(__file__).parent.parent / "unithouse"

INTERFACE = {
    "sorts": {
        "need_many": "value", "need_pair": "many, one, other", "need_sort": "many, value", "is_sort": "many, value",
        "is_single": "many, sort", "marks": "many, sort", "width": "many, sort", "how_many": "many, sort",
        "parts": "many, sort", "part_at": "many, sort, path", "put_at": "many, sort, path, part",
    },
    "codes": {
        "is_tree": "many, value", "is_rooted": "many, value", "tree_code": "many, tree", "coded_tree": "many, code",
        "rooted_code": "many, rooted", "coded_rooted": "many, code",
    },
    "members": {
        "is_member": "many, sort, value", "need_member": "many, sort, value", "content_of": "many, sort, member",
        "is_content": "many, value", "need_content": "many, value",
    },
    "listing": {
        "members": "many, sort", "page": "many, sort, *, start=0, count=10", "member_at": "many, sort, index",
        "index_of": "many, sort, member",
    },
    "readings": {
        "reading": "many, sort, member, name, other", "free_brackets": "many, sort, member, name, other",
        "can_transfer": "many, sort, member, giver, taker", "transfer": "many, sort, member, giver, taker",
        "transfers": "many, sort, member",
    },
    "strings": {
        "string_place": "many, sort, member, name, other", "is_head": "many, sort, member, name, other",
        "head_of": "many, sort, member, name, other", "string_members": "many, sort, member, name, other",
        "string_at": "many, sort, member, name, other, place", "exchange": "many, sort, member, name, other",
        "heads_listed": "many, sort, name, other", "String": "many, sort, member, name, other",
        "String.at": "self, place", "String.place_of": "self, value",
    },
    "orders": {
        "is_plain": "many, sort", "line_of": "many, sort, member", "exchanged": "many, sort, member, lows",
        "order_of": "many, lows", "lows_to": "many, order", "ordered": "many, sort, member, order",
        "all_orders": "many, sort, member", "is_root": "many, sort, member", "root_of": "many, sort, member",
        "way_back": "many, sort, member", "kin": "many, sort, member", "roots": "many, sort",
        "root_counts": "many, sort", "carried_over": "many, sort, member, other, root",
    },
    "heads": {
        "heads": "many, sort, one, other", "lengths": "many, sort, one, other", "string_count": "many, sort, one, other",
        "strings_at": "many, sort, content, one, other",
    },
    "counts": {
        "counts": "many, sort", "count_at": "many, sort, content", "totals": "many, sort",
        "splits": "many, sort, content, first, second", "growth": "many, sort, content, giver, taker",
        "most_even": "many, total", "greatest_count": "many, sort, total",
    },
    "tallies": {
        "Tally": "many, pairs", "Tally.at": "self, content", "Tally.entries": "self", "Tally.total": "self",
        "Tally.chosen": "self, times", "Tally.heaped": "self, times", "Tally.exchanged": "self, first, second",
        "tally": "many, sort",
    },
    "takenout": {
        "taken_out": "many, sort, marks", "last_marks": "many, sort", "taken_apart": "many, sort, member",
        "put_back": "many, sort, marks, rest", "counted_out": "many, sort, content",
    },
    "evenness": {
        "tops": "many, row", "is_evener": "many, row, other", "sizes_of": "many, row", "showing_sort": "many, row",
        "evenness_paper": "many, row, other", "is_evenness_paper": "many, row, other, paper",
    },
    "ways": {
        "rows_on": "many, start, way", "units": "many, start, goal", "way_to": "many, start, goal",
        "is_way": "many, start, goal, way", "led": "many, sort, member, way",
        "origin": "many, sort, start, way, member", "fresh": "many, sort, start, way",
        "arisen": "many, sort, start, way", "way_over": "many, sort, start, way, other, member",
    },
    "alike": {
        "are_alike": "many, sort, other", "first_apart": "many, sort, other",
        "matched": "many, sort, other, one, two, member", "matching": "many, sort, other, one, two",
        "check_matching": "many, sort, other, one, two, pairs",
    },
    "rules": {
        "fits": "many, word, left, right", "other_side": "many, word, sort, *, back=False",
        "member_over": "many, word, left, right, member, *, back=False",
    },
    "derivations": {
        "Derivation": "many, sort", "Derivation.step": "self, path, word, put=None, *, back=False",
        "Derivation.undo": "self", "Derivation.steps": "self", "Derivation.carried": "self, member",
        "Derivation.carried_back": "self, member", "Derivation.turned": "self", "Derivation.joined": "self, other",
        "Derivation.within": "self, sort, path", "Derivation.is_smooth": "self", "Derivation.__len__": "self",
        "Derivation.__iter__": "self", "Derivation.__eq__": "self, other",
        "derivation": "many, sort, steps", "check_derivation": "many, sort, other, steps",
    },
    "worths": {
        "need_worths": "many, value", "product_at": "many, content, worths",
        "even_sum": "many, content, worths, *, unlike=False", "sums_by_total": "many, sort, worths",
        "sum_at": "many, sort, worths", "content_terms": "many, sort, worths",
        "string_terms": "many, sort, first, second, worths", "head_sum": "many, sort, first, second, worths",
        "flat_sort": "many, total", "transfer_terms": "many, content, giver, taker, worths",
        "parting_worths": "many, content, other", "is_parting": "many, content, other, worths",
        "test_worths": "many, total", "telling_worths": "many, sort, other",
    },
    "tables": {
        "need_table": "table, *, sign", "is_table": "value, *, sign", "table_content": "table, *, sign",
        "table_sizes": "table, *, sign", "table_sort": "table, *, sign", "table_member": "table, *, sign",
        "member_table": "many, sort, member", "all_tables": "content, sizes, *, sign",
        "name_reading": "table, name, other, *, sign", "column_reading": "table, column, other, *, sign",
        "transfer_names": "table, giver, taker, *, sign", "transfer_columns": "table, giver, taker, *, sign",
        "exchange_names": "table, name, other, *, sign", "exchange_columns": "table, column, other, *, sign",
    },
    "corners": {
        "is_corner": "table, *, sign", "names_root": "table, *, sign", "columns_root": "table, *, sign",
        "corner": "table, *, sign", "joined_roots": "names_side, columns_side, *, sign",
        "rectangle": "table, low, column, *, sign", "rectangle_place": "table, low, column, *, sign",
    },
    "turned": {
        "quarter_turn": "table", "quarter_back": "table", "transposed": "table", "turned_sort": "many, sort",
        "turned_member": "many, sort, member", "layers": "many, sort, member",
    },
    "house": {
        "House": "many, rooms, *, keeps=()", "House.state": "self", "House.contents": "self", "House.log": "self",
        "House.offsets": "self", "House.copy": "self", "House.transfer": "self, giver, taker",
        "House.exchange": "self, one, other", "House.stuck": "self, giver, taker",
        "House.how_far": "self, giver, taker", "House.follow": "self, way", "House.trial": "self, way",
        "House.undo": "self", "House.chain": "self, one, other", "House.reached": "self, names, *, most=200",
        "House.__len__": "self", "House.__iter__": "self", "House.__eq__": "self, other",
    },
    "texts": {
        "sort_text": "many, sort", "read_sort": "many, text", "member_text": "many, sort, member",
        "read_member": "many, sort, text", "content_text": "many, content", "read_content": "many, text",
        "way_text": "many, way", "read_way": "many, text", "derivation_text": "many, steps",
        "read_derivation": "many, text",
    },
    "sheet": {
        "Sheet": "text", "Sheet.all_true": "self", "Sheet.named": "self, name", "whole_sheet": "many, sort",
    },
}

# The methods of each class of the interface, defined in the class itself.
METHODS = {
    ("strings", "String"): "at place_of __len__ __iter__ __contains__ __eq__",
    ("tallies", "Tally"): "at entries total chosen heaped exchanged __add__ __mul__ __pow__ __eq__ __len__",
    ("derivations", "Derivation"): """step undo steps carried carried_back turned joined within is_smooth __len__
        __iter__ __eq__""",
    ("house", "House"): """state contents log offsets copy transfer exchange stuck how_far follow trial undo chain
        reached __len__ __iter__ __eq__""",
    ("sheet", "Sheet"): "all_true named __len__ __iter__ __eq__ __str__",
}

# The attributes of each class that is no error, set when an object is created.
ATTRIBUTES = {
    ("tallies", "Tally"): ((2, []), "many pairs"),
    ("derivations", "Derivation"): ((2, ("one",)), "many start end"),
    ("house", "House"): ((2, ((("one",), 0),)), "many sorts sums keeps"),
    ("sheet", "Sheet"): (("names 2",), "many rows"),
}


class InterfaceTest(unittest.TestCase):
    def test_names_and_parameters(self):
        for file, names in INTERFACE.items():
            module = importlib.import_module(f"unithouse.{file}")
            for name, parameters in names.items():
                found = module
                for word in name.split("."):
                    found = getattr(found, word)
                self.assertEqual(str(inspect.signature(found)), f"({parameters})", name)
                self.assertEqual(found.__module__, module.__name__, name)

    def test_methods_are_defined_in_the_class_itself(self):
        for (file, name), methods in METHODS.items():
            found = vars(getattr(importlib.import_module(f"unithouse.{file}"), name))
            for method in methods.split():
                self.assertIn(method, found, name)

    def test_attributes_are_set_on_each_object(self):
        for (file, name), (passed, words) in ATTRIBUTES.items():
            made = getattr(importlib.import_module(f"unithouse.{file}"), name)(*passed)
            for word in words.split():
                self.assertIn(word, vars(made), name)

    def test_each_file_may_be_imported_first(self):
        for path in sorted(PACKAGE.glob("*.py")):
            words = "unithouse" if path.stem == "__init__" else f"unithouse.{path.stem}"
            done = subprocess.run([sys.executable, "-W", "error", "-c", f"import {words}"], cwd=PACKAGE.parent,
                                  capture_output=True, check=False)
            self.assertEqual(done.returncode, 0, done.stderr)
