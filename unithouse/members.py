"""Members of sorts and their contents.

`holds_member`, `things_in`, `names_in`, `content_in` trust their sort (and member): they are for
the other modules, which have checked both.
"""

from unithouse.codes import code_of_rooted, holds_rooted, holds_tree
from unithouse.errors import BadContent, BadMember
from unithouse.sorts import is_below, is_name, is_whole, need_many, need_sort, never_falls, rises

MOST_OF_A_NAME = 24


def row_form(sort):
    """Return (word, size, part) of a sort whose members are rows of members of a part.

    A subset's members are those of a family of names, a bag's those of a heap of names: here
    they are told as such, so that each of these kinds of rows is worked out in one place.
    """
    if sort[0] == "subset":
        return ("family", sort[1], ("one",))
    if sort[0] == "bag":
        return ("heap", sort[1], ("one",))
    return sort


def pairs_of_names(many):
    """Return the list of the pairs of names, in the order in which rounds have them."""
    return [(one, other) for one in range(many) for other in range(one + 1, many)]


def _holds_rounds(many, meetings, value):
    """Whether a value tells, for each pair of names, the winners of so many meetings."""
    pairs = pairs_of_names(many)
    if len(value) != len(pairs):
        return False
    if not all([isinstance(won, tuple) and len(won) == meetings for won in value]):
        return False
    return all([is_whole(name) and name in pair for pair, won in zip(pairs, value) for name in won])


def _holds_row(many, sort, value):
    """Whether a value is a row as a subset, bag, list, family or heap has it."""
    word, size, part = row_form(sort)
    if len(value) != size:
        return False
    if not all([holds_member(many, part, thing) for thing in value]):
        return False
    if word == "family":
        return rises(value)
    return word == "list" or never_falls(value)


def holds_member(many, sort, value):
    """Whether a value of any kind is a member of a checked sort."""
    word = sort[0]
    if word == "one":
        return is_name(many, value)
    if word == "none" or not isinstance(value, tuple):
        return False
    if word == "either":
        return len(value) == 2 and is_below(value[0], 2) and holds_member(many, sort[1 + value[0]], value[1])
    if word == "pair":
        return len(value) == 2 and all([holds_member(many, sort[1 + at], value[at]) for at in range(2)])
    if word == "rounds":
        return _holds_rounds(many, sort[1], value)
    if word == "trees":
        return holds_tree(many, value)
    if word == "rooted":
        return holds_rooted(many, value)
    return _holds_row(many, sort, value)


def is_member(many, sort, value):
    """Whether a value of any kind is a member of the sort."""
    need_sort(many, sort)
    return holds_member(many, sort, value)


def need_member(many, sort, value):
    """Return the value if it is a member of the sort."""
    if not is_member(many, sort, value):
        raise BadMember(value)
    return value


def things_in(sort, member):
    """Return the list of tuples (part, thing) of what stands directly in a member.

    The sort is an either, a pair, or one whose members are rows.
    """
    if sort[0] == "either":
        return [(sort[1 + member[0]], member[1])]
    if sort[0] == "pair":
        return [(sort[1], member[0]), (sort[2], member[1])]
    part = row_form(sort)[2]
    return [(part, thing) for thing in member]


def names_in(many, sort, member):
    """Return the list of the names of a member, each as often as it has marks there."""
    word = sort[0]
    if word == "one":
        return [member]
    if word in ("rounds", "trees"):
        return [name for row in member for name in row]
    if word == "rooted":
        # A name stands in the code as often as it has children.
        return list(code_of_rooted(many, member))
    return [name for part, thing in things_in(sort, member) for name in names_in(many, part, thing)]


def content_in(many, sort, member):
    """Return the content of a checked member."""
    names = names_in(many, sort, member)
    return tuple([names.count(name) for name in range(many)])


def content_of(many, sort, member):
    """Return the content of a member."""
    need_member(many, sort, member)
    return content_in(many, sort, member)


def is_content(many, value):
    """Whether a value of any kind is a content."""
    need_many(many)
    if not isinstance(value, tuple) or len(value) != many:
        return False
    return all([is_below(number, MOST_OF_A_NAME + 1) for number in value])


def need_content(many, value):
    """Return the value if it is a content."""
    if not is_content(many, value):
        raise BadContent(value)
    return value
