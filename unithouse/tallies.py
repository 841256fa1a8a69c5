"""Tallies: contents, each with a number from 1 on, and how they are added and multiplied."""

from unithouse.counts import content_counts
from unithouse.errors import BadIndex, BadMany, BadTable, TooGreat
from unithouse.members import MOST_OF_A_NAME, is_content, need_content
from unithouse.packed import ZEROS, added, multiplied, packed, taken, unpacked
from unithouse.rows import with_names_exchanged
from unithouse.sorts import MOST_MARKS, is_below, is_whole, need_many, need_pair, need_sort

MOST_TIMES = 12
MOST_PRODUCTS = 250000


def _is_entry(many, value):
    """Whether a value is a tuple of a content and a number from 1 on."""
    if not isinstance(value, tuple) or len(value) != 2:
        return False
    return is_content(many, value[0]) and is_whole(value[1]) and value[1] >= 1


def _are_entries(many, value):
    """Whether a value is a list or tuple of entries of unlike contents."""
    if not isinstance(value, (list, tuple)):
        return False
    if not all([_is_entry(many, entry) for entry in value]):
        return False
    return len(set([content for content, _ in value])) == len(value)


def _packed_entries(one):
    """Return a dict with the number of each packed content of a tally."""
    return {packed(content): number for content, number in one.pairs}


def _tally_of(many, counted):
    """Return the tally that has the number of each packed content."""
    return Tally(many, [(unpacked(many, content), number) for content, number in counted.items()])


def _need_same_many(one, other):
    """Raise BadMany if the second tally is over another number of names."""
    if one.many != other.many:
        raise BadMany(other.many)


def _product(one, other):
    """Return the product of two tallies."""
    _need_same_many(one, other)
    if len(one) * len(other) > MOST_PRODUCTS:
        raise TooGreat(MOST_PRODUCTS)
    many = one.many
    counted = multiplied(_packed_entries(one), _packed_entries(other))
    if any([max(unpacked(many, content)) > MOST_OF_A_NAME for content in counted]):
        raise TooGreat(MOST_OF_A_NAME)
    return _tally_of(many, counted)


def _need_times(times):
    """Raise BadIndex of what is no number of times."""
    if not is_below(times, MOST_TIMES + 1):
        raise BadIndex(times)


def _taken_from(one, times, alike):
    """Return the tally of what comes of so many things taken without order."""
    _need_times(times)
    sums = [sum(content) for content, _ in one.pairs]
    if times * max(sums, default=0) > MOST_MARKS:
        raise TooGreat(MOST_MARKS)
    return _tally_of(one.many, taken(_packed_entries(one), times, alike))


class Tally:
    """Unlike contents, each with a number from 1 on; it never changes."""

    def __init__(self, many, pairs):
        need_many(many)
        if not _are_entries(many, pairs):
            raise BadTable(pairs)
        self.many = many
        self.pairs = tuple(sorted(pairs))
        self._numbers = {content: number for content, number in pairs}

    def __add__(self, other):
        if not isinstance(other, Tally):
            return NotImplemented
        _need_same_many(self, other)
        return _tally_of(self.many, added(_packed_entries(self), _packed_entries(other)))

    def __mul__(self, other):
        if not isinstance(other, Tally):
            return NotImplemented
        return _product(self, other)

    def __pow__(self, other):
        _need_times(other)
        product = _tally_of(self.many, {ZEROS: 1})
        for _ in range(other):
            product = _product(product, self)
        return product

    def __eq__(self, other):
        return isinstance(other, Tally) and self.many == other.many and self.pairs == other.pairs

    def __len__(self):
        return len(self.pairs)

    def at(self, content):
        """Return the number of the content, 0 if it is not there."""
        need_content(self.many, content)
        return self._numbers.get(content, 0)

    def entries(self):
        """Return the pairs as a new list."""
        return list(self.pairs)

    def total(self):
        """Return the sum of the numbers."""
        return sum([number for _, number in self.pairs])

    def chosen(self, times):
        """Return the tally of the sums of so many unlike things."""
        return _taken_from(self, times, False)

    def heaped(self, times):
        """Return the tally of the sums of so many things, alike or not."""
        return _taken_from(self, times, True)

    def exchanged(self, first, second):
        """Return the tally in which the marks of two names have changed places."""
        low, high = need_pair(self.many, first, second)
        return Tally(self.many, [(with_names_exchanged(content, low, high), number)
                                 for content, number in self.pairs])


def tally(many, sort):
    """Return the tally of the counts of a sort."""
    need_sort(many, sort)
    return Tally(many, list(content_counts(many, sort).items()))
