"""The left and right sides of the rules.

`right_of` and `left_of` trust what they are passed; what they return may be no sort.
"""

from unithouse.chains import chain_of
from unithouse.codes import code_sort
from unithouse.patterns import filled, held_by, told_over

# The left and the right side of each rule that patterns can tell: A, B, C are sorts, K and M numbers.
SIDES = {
    "either_swap": (("either", "A", "B"), ("either", "B", "A")),
    "either_turn": (("either", ("either", "A", "B"), "C"), ("either", "A", ("either", "B", "C"))),
    "either_none": (("either", "A", ("none",)), "A"),
    "pair_swap": (("pair", "A", "B"), ("pair", "B", "A")),
    "pair_turn": (("pair", ("pair", "A", "B"), "C"), ("pair", "A", ("pair", "B", "C"))),
    "pair_unit": (("pair", "A", ("subset", 0)), "A"),
    "pair_none": (("pair", "A", ("none",)), ("none",)),
    "pair_either": (("pair", "A", ("either", "B", "C")), ("either", ("pair", "A", "B"), ("pair", "A", "C"))),
    "list_empty": (("list", 0, "A"), ("subset", 0)),
    "family_empty": (("family", 0, "A"), ("subset", 0)),
    "heap_empty": (("heap", 0, "A"), ("subset", 0)),
    "family_one": (("family", 1, "A"), "A"),
    "heap_one": (("heap", 1, "A"), "A"),
    "family_none": (("family", "M", ("none",)), ("none",)),
    "heap_none": (("heap", "M", ("none",)), ("none",)),
    "family_unit": (("family", "M", ("subset", 0)), ("none",)),
    "heap_unit": (("heap", "M", ("subset", 0)), ("subset", 0)),
    "subset_one": (("subset", 1), ("one",)),
    "subset_wide": (("subset", "K"), ("none",)),
    "subset_family": (("subset", "K"), ("family", "K", ("one",))),
    "bag_heap": (("bag", "K"), ("heap", "K", ("one",))),
    "square": (("pair", "A", "A"), ("either", ("heap", 2, "A"), ("family", 2, "A"))),
    "rounds_again": (("rounds", 2), ("pair", ("rounds", 1), ("rounds", 1))),
    "rounds_two": (("rounds", 1), ("one",)),
}


def first_of_chain(sort):
    """Return the first one of a chain of pairs."""
    if sort[0] == "either":
        return sort[1]
    return sort


def _row_either(word, size, one, other):
    """Return the right side of family_either or heap_either."""
    return chain_of([("pair", (word, own, one), (word, size - own, other)) for own in range(size + 1)])


def _parity_side(size, part, least):
    """Return the side of parity with families of so many things, or 2, 4, .. more."""
    return chain_of([("pair", ("family", own, part), ("heap", size - own, part)) for own in range(least, size + 1, 2)])


def _first_right(many, word, left):
    """Return the right side of list_first."""
    held = held_by(("list", "M", "A"), left)
    if held is None or held["M"] == 0:
        return None
    return ("pair", held["A"], ("list", held["M"] - 1, held["A"]))


def _first_left(many, word, right):
    """Return the left side of list_first that a right side lets expect."""
    held = held_by(("pair", "A", ("list", "M", "A")), right)
    if held is None:
        return None
    return ("list", held["M"] + 1, held["A"])


def _row_word(word):
    """Return the word of the rows that a rule tells of."""
    return "family" if word == "family_either" else "heap"


def _either_right(many, word, left):
    """Return the right side of family_either or heap_either."""
    held = held_by((_row_word(word), "M", ("either", "A", "B")), left)
    if held is None:
        return None
    return _row_either(_row_word(word), held["M"], held["A"], held["B"])


def _either_left(many, word, right):
    """Return the left side of family_either or heap_either that a right side lets expect."""
    row = _row_word(word)
    return told_over(("pair", (row, 0, "A"), (row, "M", "B")), first_of_chain(right), (row, "M", ("either", "A", "B")))


def _parity_right(many, word, left):
    """Return the right side of parity."""
    held = held_by(("pair", ("family", 0, "A"), ("heap", "M", "A")), first_of_chain(left))
    if held is None or held["M"] == 0 or left != _parity_side(held["M"], held["A"], 0):
        return None
    return _parity_side(held["M"], held["A"], 1)


def _parity_left(many, word, right):
    """Return the left side of parity that a right side lets expect."""
    held = held_by(("pair", ("family", 1, "A"), ("heap", "M", "A")), first_of_chain(right))
    if held is None:
        return None
    return _parity_side(held["M"] + 1, held["A"], 0)


def _coded(word):
    """Return the sort whose codes a rule tells of."""
    return ("trees",) if word == "trees_code" else ("rooted",)


def _code_right(many, word, left):
    """Return the right side of trees_code or rooted_code."""
    if left != _coded(word):
        return None
    return code_sort(many, left)


def _code_left(many, word, right):
    """Return the left side of trees_code or rooted_code."""
    return _coded(word)


# The functions that tell the sides of the other rules.
RIGHTS = {
    "list_first": _first_right,
    "family_either": _either_right,
    "heap_either": _either_right,
    "parity": _parity_right,
    "trees_code": _code_right,
    "rooted_code": _code_right,
}
LEFTS = {
    "list_first": _first_left,
    "family_either": _either_left,
    "heap_either": _either_left,
    "parity": _parity_left,
    "trees_code": _code_left,
    "rooted_code": _code_left,
}


def _lets(many, word, held):
    """Whether a rule lets the numbers for which the letters of its left side stand."""
    if word in ("family_none", "heap_none"):
        return held["M"] >= 1
    if word == "family_unit":
        return held["M"] >= 2
    if word == "subset_wide":
        return held["K"] > many
    return word != "rounds_two" or many == 2


def right_of(many, word, left):
    """Return the right side of a rule that goes with a left one, None if there is none."""
    if word in RIGHTS:
        side = RIGHTS[word]
        return side(many, word, left)
    pattern, other = SIDES[word]
    held = held_by(pattern, left)
    if held is None or not _lets(many, word, held):
        return None
    return filled(other, held)


def left_of(many, word, right):
    """Return the left side of a rule that goes with a right one, None if there is none, or more than one."""
    if word in LEFTS:
        side = LEFTS[word]
        left = side(many, word, right)
    else:
        other, pattern = SIDES[word]
        left = told_over(pattern, right, other)
    if left is None or right_of(many, word, left) != right:
        return None
    return left
