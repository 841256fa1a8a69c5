"""What names and sorts must be, the parts of a sort, its bounds and the number of its members.

The functions of the interface check what they are passed. `inner_indexes`, `inner_parts`,
`single_of`, `marks_of`, `width_of`, `count_of` and `parts_in` trust their sort: they are for the
modules of the package, which have checked it.
"""

from math import comb

from unithouse.errors import BadMany, BadName, BadPath, BadSort, SameName, TooGreat

LEAST_MANY = 2
MOST_MANY = 5
MOST_NUMBER = 12
MOST_MEETINGS = 2
MOST_DEEP = 10
MOST_PARTS = 60
MOST_MARKS = 12
MOST_WIDTH = 40
MOST_MEMBERS = 10 ** 30

# What stands behind each of the twelve words.
FORMS = {
    "none": (),
    "one": (),
    "subset": ("number",),
    "bag": ("number",),
    "either": ("sort", "sort"),
    "pair": ("sort", "sort"),
    "list": ("number", "sort"),
    "family": ("number", "sort"),
    "heap": ("number", "sort"),
    "rounds": ("meetings",),
    "trees": (),
    "rooted": (),
}


def is_whole(value):
    """Whether a value is an integer: True and False are none."""
    return isinstance(value, int) and not isinstance(value, bool)


def is_below(value, bound):
    """Whether a value is an integer from 0 on and less than the bound."""
    return is_whole(value) and 0 <= value < bound


def is_name(many, value):
    """Whether a value is one of the names."""
    return is_below(value, many)


def rises(row):
    """Whether each thing of a row is greater than the one ahead of it."""
    return all([one < other for one, other in zip(row, row[1:])])


def never_falls(row):
    """Whether no thing of a row is less than the one ahead of it."""
    return all([one <= other for one, other in zip(row, row[1:])])


def need_many(value):
    """Return the value if it is a number of names."""
    if not is_whole(value) or not LEAST_MANY <= value <= MOST_MANY:
        raise BadMany(value)
    return value


def need_pair(many, one, other):
    """Return two unlike names, the lesser one first."""
    need_many(many)
    if not is_name(many, one):
        raise BadName(one)
    if not is_name(many, other):
        raise BadName(other)
    if one == other:
        raise SameName(one)
    return (min(one, other), max(one, other))


def inner_indexes(sort):
    """Return the indexes at which the parts directly in a sort stand."""
    return [at for at, kind in enumerate(FORMS[sort[0]], start=1) if kind == "sort"]


def inner_parts(sort):
    """Return the parts directly in a sort."""
    return [sort[at] for at in inner_indexes(sort)]


def _is_of_kind(kind, value):
    """Whether a value may stand where a form has this kind of thing; parts are looked at later."""
    if kind == "number":
        return is_below(value, MOST_NUMBER + 1)
    if kind == "meetings":
        return is_whole(value) and 1 <= value <= MOST_MEETINGS
    return True


def _has_form(value):
    """Whether a value has one of the twelve forms, whatever its parts are."""
    if not isinstance(value, tuple) or len(value) == 0:
        return False
    word = value[0]
    if not isinstance(word, str) or word not in FORMS:
        return False
    kinds = FORMS[word]
    if len(value) != len(kinds) + 1:
        return False
    return all([_is_of_kind(kind, thing) for kind, thing in zip(kinds, value[1:])])


def _things_met(value, path, met):
    """Walk through a value; return how many things are met by then, met being those ahead of it."""
    if len(path) == MOST_DEEP:
        raise TooGreat(MOST_DEEP)
    if met == MOST_PARTS:
        raise TooGreat(MOST_PARTS)
    if not _has_form(value):
        raise BadSort(path)
    now = met + 1
    for at in inner_indexes(value):
        now = _things_met(value[at], path + (at,), now)
        if value[0] in ("family", "heap") and not single_of(value[at]):
            raise BadSort(path + (at,))
    return now


def need_sort(many, value):
    """Return the value if it is a sort, within all bounds."""
    need_many(many)
    _things_met(value, (), 0)
    if marks_of(many, value) > MOST_MARKS:
        raise TooGreat(MOST_MARKS)
    if width_of(many, value) > MOST_WIDTH:
        raise TooGreat(MOST_WIDTH)
    count_of(many, value)
    return value


def is_sort(many, value):
    """Whether a value is a sort."""
    try:
        need_sort(many, value)
    except (BadSort, TooGreat):
        return False
    return True


def single_of(sort):
    """Whether a checked sort is single."""
    if sort[0] == "either":
        return single_of(sort[1]) and single_of(sort[2])
    return sort[0] in ("none", "one", "subset")


def is_single(many, sort):
    """Whether a sort is single."""
    need_sort(many, sort)
    return single_of(sort)


def marks_of(many, sort):
    """Return the marks of a sort, or of a part that alone would be none."""
    word = sort[0]
    inner = [marks_of(many, part) for part in inner_parts(sort)]
    if word == "none":
        return 0
    if word == "one":
        return 1
    if word in ("subset", "bag"):
        return sort[1]
    if word == "either":
        return max(inner)
    if word == "pair":
        return sum(inner)
    if word == "rounds":
        return sort[1] * many * (many - 1) // 2
    if word == "trees":
        return 2 * (many - 1)
    if word == "rooted":
        return many - 1
    return sort[1] * inner[0]


def marks(many, sort):
    """Return the marks of a sort."""
    need_sort(many, sort)
    return marks_of(many, sort)


def width_of(many, sort):
    """Return the width of a sort, or of a part that alone would be none."""
    word = sort[0]
    inner = [width_of(many, part) for part in inner_parts(sort)]
    if word == "either":
        return max(inner)
    if word == "pair":
        return sum(inner)
    if word in ("list", "family", "heap"):
        return sort[1] * inner[0]
    return 1


def width(many, sort):
    """Return the width of a sort."""
    need_sort(many, sort)
    return width_of(many, sort)


def power(base, times):
    """Return the product of so many times the base."""
    product = 1
    for _ in range(times):
        product = product * base
    return product


def heaps_of(kinds, size):
    """Return how many rows of so many things of some kinds never fall."""
    if size == 0:
        return 1
    return comb(kinds + size - 1, size)


def _count_from(many, sort, inner):
    """Return the number of members of a sort, inner being those of the parts directly in it."""
    word = sort[0]
    if word == "none":
        return 0
    if word == "one":
        return many
    if word == "subset":
        return comb(many, sort[1])
    if word == "bag":
        return heaps_of(many, sort[1])
    if word == "either":
        return inner[0] + inner[1]
    if word == "pair":
        return inner[0] * inner[1]
    if word == "list":
        return power(inner[0], sort[1])
    if word == "family":
        return comb(inner[0], sort[1])
    if word == "heap":
        return heaps_of(inner[0], sort[1])
    if word == "rounds":
        return power(2, sort[1] * many * (many - 1) // 2)
    if word == "trees":
        return power(many, many - 2)
    return power(many, many - 1)


def count_of(many, sort):
    """Return the number of members of a sort, TooGreat if it or one of its parts has too many.

    The parts are looked at first, and the first one with too many ends it: below a list of 0
    things the numbers could otherwise grow too long to work with.
    """
    inner = [count_of(many, part) for part in inner_parts(sort)]
    count = _count_from(many, sort, inner)
    if count > MOST_MEMBERS:
        raise TooGreat(MOST_MEMBERS)
    return count


def how_many(many, sort):
    """Return the number of members of a sort."""
    need_sort(many, sort)
    return count_of(many, sort)


def parts_in(sort, path=()):
    """Return the list of the parts of a checked sort with their paths, path being its own."""
    found = [(path, sort)]
    for at in inner_indexes(sort):
        found.extend(parts_in(sort[at], path + (at,)))
    return found


def parts(many, sort):
    """Return the list of tuples (path, part) of all parts of a sort, in the order of the walk."""
    need_sort(many, sort)
    return parts_in(sort)


def _part_or_none(sort, path):
    """Return the part of a checked sort at a path, None if there is none; no part is None."""
    if not isinstance(path, tuple):
        return None
    part = sort
    for at in path:
        if not is_whole(at) or at not in inner_indexes(part):
            return None
        part = part[at]
    return part


def part_at(many, sort, path):
    """Return the part of a sort at a path."""
    need_sort(many, sort)
    part = _part_or_none(sort, path)
    if part is None:
        raise BadPath(path)
    return part


def _with_part(sort, path, part):
    """Return a sort with a part put at a path that leads to one."""
    if len(path) == 0:
        return part
    at = path[0]
    return sort[:at] + (_with_part(sort[at], path[1:], part),) + sort[at + 1:]


def put_at(many, sort, path, part):
    """Return the sort with the part put at the path, checked as a whole."""
    part_at(many, sort, path)
    return need_sort(many, _with_part(sort, path, part))
