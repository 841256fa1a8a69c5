"""Which row is evener than another one, and papers that show it."""

from unithouse.chains import chain_of
from unithouse.counts import content_counts
from unithouse.errors import TooGreat
from unithouse.members import need_content
from unithouse.rows import evener, tops_of
from unithouse.sorts import MOST_MARKS, is_sort
from unithouse.ways import holds_way, way_between


def tops(many, row):
    """Return the tuple of the sums of the K greatest numbers of the row, for K from 0 on."""
    need_content(many, row)
    return tops_of(row)


def is_evener(many, row, other):
    """Whether the row is evener than the other one."""
    need_content(many, row)
    need_content(many, other)
    return evener(row, other)


def _sizes_in(row):
    """Return how many numbers of a row are at least 1, at least 2, and so on."""
    return tuple([len([number for number in row if number >= least]) for least in range(1, max(row) + 1)])


def sizes_of(many, row):
    """Return how many numbers of the row are at least 1, at least 2, .. up to its greatest one."""
    need_content(many, row)
    return _sizes_in(row)


def _showing(row):
    """Return the sort that shows a row."""
    sizes = _sizes_in(row)
    # The sizes never ascend, so of an unlike one the first place is found first.
    unlike = [size for at, size in enumerate(sizes) if sizes.index(size) == at]
    lists = [("list", sizes.count(size), ("subset", size)) for size in unlike]
    if len(lists) == 0:
        return ("subset", 0)
    return chain_of(lists, "pair")


def _need_few_marks(row):
    """Raise TooGreat of a row with more marks than a sort has."""
    if sum(row) > MOST_MARKS:
        raise TooGreat(MOST_MARKS)


def showing_sort(many, row):
    """Return the sort that has just one member with the row, and others with evener ones alone."""
    need_content(many, row)
    _need_few_marks(row)
    return _showing(row)


def evenness_paper(many, row, other):
    """Return ("way", a way from the other row to the row), or ("sort", a sort with more of the other row)."""
    need_content(many, row)
    need_content(many, other)
    _need_few_marks(other)
    if evener(row, other):
        return ("way", way_between(many, other, row))
    return ("sort", _showing(other))


def _has_more(many, sort, row, other):
    """Whether a value is a sort with more members of the row than of the other one."""
    if not is_sort(many, sort):
        return False
    counted = content_counts(many, sort)
    return counted.get(row, 0) > counted.get(other, 0)


def is_evenness_paper(many, row, other, paper):
    """Whether a value of any kind is a paper that shows whether the row is evener than the other one."""
    need_content(many, row)
    need_content(many, other)
    if not isinstance(paper, tuple) or len(paper) != 2 or not isinstance(paper[0], str):
        return False
    word, shown = paper
    if word == "way":
        return holds_way(many, other, row, shown)
    return word == "sort" and _has_more(many, shown, other, row)
