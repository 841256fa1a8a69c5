"""The words of texts of sorts: those of a sort, and the sort of those that are taken.

These functions trust their sorts.
"""

from unithouse.errors import TooGreat
from unithouse.sorts import FORMS, MOST_MEETINGS, MOST_NUMBER
from unithouse.words import numbers_up_to

MOST_WORDS = 400
MOST_OPEN = 40

UNIT_WORDS = ("none", "one", "trees", "rooted", "subset", "bag", "rounds", "list", "family", "heap")
OPENING = ("(", "of")


def _words_within(sort, bare):
    """Return the words of a part, within parentheses unless its word is one of the bare ones."""
    words = sort_words(sort)
    if sort[0] in UNIT_WORDS or sort[0] in bare:
        return words
    return ["("] + words + [")"]


def sort_words(sort):
    """Return the list of the words of a sort, the fewest that tell it."""
    word = sort[0]
    if word == "either":
        # Signs associate to the left, so there the same sign needs no parentheses.
        return _words_within(sort[1], ("either", "pair")) + ["+"] + _words_within(sort[2], ("pair",))
    if word == "pair":
        return _words_within(sort[1], ("pair",)) + ["*"] + _words_within(sort[2], ())
    words = [word]
    for kind, thing in zip(FORMS[word], sort[1:]):
        if kind == "sort":
            words = words + ["of"] + _words_within(thing, ())
        else:
            words = words + [str(thing)]
    return words


class SortWords:
    """The words of a text of a sort, taken one after the other; given has the sorts that have names."""

    def __init__(self, words, given):
        self.words = words
        self.given = given
        self.first = words.place

    def take(self, options, depth):
        """Take the next word, which is one of the options, inside of so many open parts."""
        word = self.words.take(options)
        if self.words.place - self.first > MOST_WORDS:
            raise TooGreat(MOST_WORDS)
        if word in OPENING and depth == MOST_OPEN:
            raise TooGreat(MOST_OPEN)
        return word


def _take_thing(reader, kind, depth):
    """Take what stands behind the word of a unit: a number, or a sort behind `of`."""
    if kind == "number":
        return int(reader.take(numbers_up_to(MOST_NUMBER), depth))
    if kind == "meetings":
        return int(reader.take(numbers_up_to(MOST_MEETINGS)[1:], depth))
    reader.take(("of",), depth)
    return _take_unit(reader, depth + 1)


def _take_unit(reader, depth):
    """Take the words of a UNIT; return its sort."""
    word = reader.take(["("] + list(UNIT_WORDS) + list(reader.given), depth)
    if word == "(":
        sort = _take_sum(reader, depth + 1)
        reader.take((")",), depth + 1)
        return sort
    if word in reader.given:
        return reader.given[word]
    things = [word]
    for kind in FORMS[word]:
        things.append(_take_thing(reader, kind, depth))
    return tuple(things)


def _take_product(reader, depth):
    """Take the words of a PRODUCT; return its sort."""
    sort = _take_unit(reader, depth)
    while reader.words.ahead() == "*":
        reader.take(("*",), depth)
        sort = ("pair", sort, _take_unit(reader, depth))
    return sort


def _take_sum(reader, depth):
    """Take the words of a SUM; return its sort."""
    sort = _take_product(reader, depth)
    while reader.words.ahead() == "+":
        reader.take(("+",), depth)
        sort = ("either", sort, _take_product(reader, depth))
    return sort


def take_sort(words, given):
    """Take the words of a sort; return it, whatever need_sort says of it. The sorts that are given have names."""
    first = words.place
    sort = _take_sum(SortWords(words, given), 0)
    words.sorts_read.append((first, words.place, sort))
    return sort
