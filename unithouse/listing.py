"""The members of a sort in ascending order: lists of them, and their numbers from 0.

`listed`, `nth`, `number_of` and `need_few` trust their sort, member and number: they are for the
other modules, which have checked them.
"""

from math import comb

from unithouse.codes import tree_of_code
from unithouse.digits import digits_of, with_digits
from unithouse.errors import BadIndex, TooGreat
from unithouse.members import need_member, pairs_of_names, row_form
from unithouse.sorts import count_of, is_below, need_sort

MOST_LISTED = 2000
MOST_ON_PAGE = 100


def need_few(many, sort):
    """Raise TooGreat if a sort has too many members to list them."""
    if count_of(many, sort) > MOST_LISTED:
        raise TooGreat(MOST_LISTED)


def _least_behind(word, row):
    """Return the least number that may stand behind a row of numbers in a list, family or heap."""
    if word == "list" or len(row) == 0:
        return 0
    if word == "family":
        return row[-1] + 1
    return row[-1]


def _number_rows(word, kinds, size):
    """Return all rows of so many numbers below kinds that a list, family or heap lets, ascending."""
    rows = [()]
    for _ in range(size):
        rows = [row + (number,) for row in rows for number in range(_least_behind(word, row), kinds)]
    return rows


def _choice_at(kinds, size, index):
    """Return the row with the number index among the rising rows of so many numbers below kinds."""
    row = []
    rest = index
    for number in range(kinds):
        if len(row) == size:
            break
        begun = comb(kinds - 1 - number, size - len(row) - 1)
        if rest < begun:
            row.append(number)
        else:
            rest -= begun
    return tuple(row)


def _number_of_choice(kinds, row):
    """Return the number of a row among the rising rows of as many numbers below kinds."""
    size = len(row)
    if size == 0:
        return 0
    behind = sum([comb(kinds - 1 - number, size - at) for at, number in enumerate(row)])
    return comb(kinds, size) - 1 - behind


def all_trees(many):
    """Return the list of all trees, ascending."""
    codes = _number_rows("list", many, many - 2)
    return sorted([tree_of_code(many, code) for code in codes])


def _rounds_of_bits(many, meetings, bits):
    """Return the member of rounds in which each meeting in turn is won by the name that a bit tells."""
    rounds = []
    for at, pair in enumerate(pairs_of_names(many)):
        told = bits[at * meetings:(at + 1) * meetings]
        rounds.append(tuple([pair[bit] for bit in told]))
    return tuple(rounds)


def _bits_of_rounds(many, member):
    """Return the bits that tell the winners of a member of rounds."""
    return [pair.index(name) for pair, won in zip(pairs_of_names(many), member) for name in won]


def _count_of_bits(many, meetings):
    """Return how many meetings a member of rounds has."""
    return meetings * len(pairs_of_names(many))


def _listed_rows(many, sort):
    """Return all members, ascending, of a sort whose members are rows."""
    word, size, part = row_form(sort)
    if size == 0:
        return [()]
    things = listed(many, part)
    return [tuple([things[number] for number in row]) for row in _number_rows(word, len(things), size)]


def listed(many, sort):
    """Return all members, ascending, of a sort that has few.

    A sort without members is not looked into, as its parts may have more than can be listed;
    otherwise each part of which a member holds a thing has no more members than the whole.
    """
    word = sort[0]
    if count_of(many, sort) == 0:
        return []
    if word == "one":
        return list(range(many))
    if word == "either":
        first = [(0, thing) for thing in listed(many, sort[1])]
        return first + [(1, thing) for thing in listed(many, sort[2])]
    if word == "pair":
        seconds = listed(many, sort[2])
        return [(first, second) for first in listed(many, sort[1]) for second in seconds]
    if word == "rounds":
        rows = _number_rows("list", 2, _count_of_bits(many, sort[1]))
        return [_rounds_of_bits(many, sort[1], bits) for bits in rows]
    if word == "trees":
        return all_trees(many)
    if word == "rooted":
        trees = all_trees(many)
        return [(root, tree) for root in range(many) for tree in trees]
    return _listed_rows(many, sort)


def _row_at(many, sort, index):
    """Return the member with a number of a sort whose members are rows."""
    word, size, part = row_form(sort)
    kinds = count_of(many, part)
    if word == "list":
        numbers = digits_of(index, kinds, size)
    elif word == "family":
        numbers = _choice_at(kinds, size, index)
    else:
        # A row that never falls rises once its numbers are raised by their places, in the same order.
        choice = _choice_at(kinds + size - 1, size, index)
        numbers = [number - at for at, number in enumerate(choice)]
    return tuple([nth(many, part, number) for number in numbers])


def nth(many, sort, index):
    """Return the member of a sort that has a number."""
    word = sort[0]
    if word == "one":
        return index
    if word == "either":
        firsts = count_of(many, sort[1])
        if index < firsts:
            return (0, nth(many, sort[1], index))
        return (1, nth(many, sort[2], index - firsts))
    if word == "pair":
        first, second = divmod(index, count_of(many, sort[2]))
        return (nth(many, sort[1], first), nth(many, sort[2], second))
    if word == "rounds":
        bits = digits_of(index, 2, _count_of_bits(many, sort[1]))
        return _rounds_of_bits(many, sort[1], bits)
    if word == "trees":
        return all_trees(many)[index]
    if word == "rooted":
        root, number = divmod(index, count_of(many, ("trees",)))
        return (root, all_trees(many)[number])
    return _row_at(many, sort, index)


def _number_of_row(many, sort, member):
    """Return the number of a member of a sort whose members are rows."""
    word, size, part = row_form(sort)
    kinds = count_of(many, part)
    numbers = [number_of(many, part, thing) for thing in member]
    if word == "list":
        return with_digits(numbers, kinds)
    if word == "family":
        return _number_of_choice(kinds, numbers)
    raised = [number + at for at, number in enumerate(numbers)]
    return _number_of_choice(kinds + size - 1, raised)


def number_of(many, sort, member):
    """Return the number that a member has in its sort."""
    word = sort[0]
    if word == "one":
        return member
    if word == "either":
        number = number_of(many, sort[1 + member[0]], member[1])
        return number + member[0] * count_of(many, sort[1])
    if word == "pair":
        first = number_of(many, sort[1], member[0])
        return first * count_of(many, sort[2]) + number_of(many, sort[2], member[1])
    if word == "rounds":
        return with_digits(_bits_of_rounds(many, member), 2)
    if word == "trees":
        return all_trees(many).index(member)
    if word == "rooted":
        return member[0] * count_of(many, ("trees",)) + all_trees(many).index(member[1])
    return _number_of_row(many, sort, member)


def members(many, sort):
    """Return the list of all members of a sort, ascending."""
    need_sort(many, sort)
    need_few(many, sort)
    return listed(many, sort)


def page(many, sort, *, start=0, count=10):
    """Return the list of the members from number start on, at most count of them."""
    need_sort(many, sort)
    total = count_of(many, sort)
    if not is_below(start, total + 1):
        raise BadIndex(start)
    if not is_below(count, MOST_ON_PAGE + 1):
        raise BadIndex(count)
    return [nth(many, sort, index) for index in range(start, min(start + count, total))]


def member_at(many, sort, index):
    """Return the member of a sort that has the number index."""
    need_sort(many, sort)
    if not is_below(index, count_of(many, sort)):
        raise BadIndex(index)
    return nth(many, sort, index)


def index_of(many, sort, member):
    """Return the number that the member has in its sort."""
    need_member(many, sort, member)
    return number_of(many, sort, member)
