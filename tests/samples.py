"""Sorts and values that several tests go through."""

ONE = ("one",)
NONE = ("none",)
EMPTY = ("subset", 0)
TWO_KINDS = ("either", ONE, ("subset", 2))

# Of every word, and of words within others, so few members that a test may go through all of them.
SMALL = (
    (3, NONE),
    (2, ONE),
    (5, ONE),
    (4, ("subset", 2)),
    (3, ("subset", 0)),
    (3, ("subset", 4)),
    (3, ("bag", 3)),
    (4, ("bag", 2)),
    (2, ("bag", 4)),
    (3, ("either", ONE, ("bag", 2))),
    (3, ("either", NONE, ("either", ("subset", 1), ("trees",)))),
    (3, ("pair", ("subset", 2), ("bag", 2))),
    (3, ("pair", NONE, ONE)),
    (3, ("list", 3, ONE)),
    (2, ("list", 5, ONE)),
    (3, ("list", 0, NONE)),
    (3, ("list", 2, ("either", ("subset", 2), ("bag", 2)))),
    (4, ("family", 2, ("subset", 2))),
    (3, ("family", 2, ("either", ONE, ONE))),
    (3, ("family", 3, TWO_KINDS)),
    (3, ("family", 0, NONE)),
    (3, ("family", 2, NONE)),
    (3, ("heap", 0, NONE)),
    (3, ("heap", 2, NONE)),
    (4, ("family", 3, ONE)),
    (3, ("heap", 3, ONE)),
    (3, ("heap", 2, TWO_KINDS)),
    (4, ("heap", 2, ("subset", 2))),
    (2, ("heap", 4, ("either", ONE, ("subset", 1)))),
    (2, ("rounds", 1)),
    (2, ("rounds", 2)),
    (3, ("rounds", 1)),
    (3, ("rounds", 2)),
    (4, ("rounds", 1)),
    (2, ("trees",)),
    (3, ("trees",)),
    (4, ("trees",)),
    (5, ("trees",)),
    (2, ("rooted",)),
    (3, ("rooted",)),
    (4, ("rooted",)),
    (3, ("pair", ("family", 2, ("subset", 2)), ("either", ("rounds", 1), ("rooted",)))),
    (3, ("list", 2, ("pair", ONE, ("heap", 2, ONE)))),
)

SMALL_PLAIN = tuple((many, sort) for many, sort in SMALL
                    if all(word not in str(sort) for word in ("family", "heap", "rounds")))


def balanced(leaf, number):
    """Return an either of eithers with so many leaves, as flat as can be."""
    if number == 1:
        return leaf
    return ("either", balanced(leaf, number - number // 2), balanced(leaf, number // 2))


def deep(number, last=NONE):
    """Return a sort that is so deep, with the last thing at the very bottom on the left."""
    value = last
    for _ in range(number - 1):
        value = ("either", value, ONE)
    return value


TEN = balanced(EMPTY, 10)
# Exactly 10 ** 30 members, and one more.
GREATEST = ("list", 3, ("list", 10, TEN))
TOO_MANY = ("either", GREATEST, EMPTY)

# Far too many members to list them, up to 10 ** 30.
GREAT = (
    (3, GREATEST),
    (5, ("list", 12, ONE)),
    (5, ("list", 12, ("either", ONE, ONE))),
    (5, ("bag", 12)),
    (5, ("family", 6, ("either", ONE, ("subset", 2)))),
    (5, ("heap", 6, ("either", ONE, ("subset", 2)))),
    (3, ("family", 12, balanced(EMPTY, 29))),
    (3, ("heap", 12, balanced(EMPTY, 29))),
    (4, ("rounds", 2)),
    (5, ("rounds", 1)),
    (5, ("pair", ("rooted",), ("list", 4, ("either", ("heap", 2, ONE), ("subset", 2))))),
    (4, ("list", 2, ("trees",))),
    (3, ("pair", ("list", 10, TEN), ("pair", ("rounds", 2), ("heap", 6, ONE)))),
)

# Not one of them is an integer, a tuple of such, or a word.
ODD_VALUES = (None, True, False, "a", "", 1.0, [], [0], {}, {0}, b"a", (None,), ("a",), 2 ** 70)
