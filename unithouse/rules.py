"""Rules: each says of two sorts, left and right, that they are alike, and how their members correspond."""

from unithouse.chains import in_chain, out_of_chain
from unithouse.codes import code_member, of_code_member
from unithouse.errors import BadMember, BadRule
from unithouse.members import holds_member
from unithouse.patterns import told_over
from unithouse.sides import first_of_chain, left_of, right_of
from unithouse.sorts import is_sort, need_many, need_sort

RULES = (
    "either_swap", "either_turn", "either_none", "pair_swap", "pair_turn", "pair_unit", "pair_none", "pair_either",
    "list_first", "list_empty", "family_empty", "heap_empty", "family_one", "heap_one", "family_none", "heap_none",
    "family_unit", "heap_unit", "subset_one", "subset_wide", "subset_family", "bag_heap", "family_either",
    "heap_either", "square", "parity", "rounds_again", "rounds_two", "trees_code", "rooted_code",
)

# The pairs of a left member and the right one, where patterns can tell them. Rules between sorts without members
# have none.
MEMBERS = {
    "either_swap": (((0, "X"), (1, "X")), ((1, "Y"), (0, "Y"))),
    "either_turn": (((0, (0, "X")), (0, "X")), ((0, (1, "Y")), (1, (0, "Y"))), ((1, "Z"), (1, (1, "Z")))),
    "either_none": (((0, "X"), "X"),),
    "pair_swap": ((("X", "Y"), ("Y", "X")),),
    "pair_turn": (((("X", "Y"), "Z"), ("X", ("Y", "Z"))),),
    "pair_unit": ((("X", ()), "X"),),
    "pair_either": ((("X", ("S", "V")), ("S", ("X", "V"))),),
    "list_empty": (((), ()),),
    "family_empty": (((), ()),),
    "heap_empty": (((), ()),),
    "family_one": ((("X",), "X"),),
    "heap_one": ((("X",), "X"),),
    "subset_one": ((("X",), "X"),),
    "subset_family": (("X", "X"),),
    "bag_heap": (("X", "X"),),
    "rounds_two": (((("X",),), "X"),),
}


def _first_over(many, left, member):
    """Lead a list to its first thing and the others."""
    return (member[0], member[1:])


def _first_back(many, left, member):
    """Lead a thing and a list of others to the list of all."""
    return (member[0],) + member[1]


def _units_over(many, left, member):
    """Lead the heap of empty tuples to the empty tuple."""
    return ()


def _units_back(many, left, member):
    """Lead the empty tuple to the heap of empty tuples."""
    return ((),) * left[1]


def _sides_over(many, left, member):
    """Lead a family or heap of both sides of an either to those of each side."""
    firsts = tuple([thing for side, thing in member if side == 0])
    seconds = tuple([thing for side, thing in member if side == 1])
    return in_chain(len(firsts), left[1] + 1, (firsts, seconds))


def _sides_back(many, left, member):
    """Lead the families or heaps of each side of an either to that of both."""
    _, (firsts, seconds) = out_of_chain(left[1] + 1, member)
    return tuple([(0, thing) for thing in firsts] + [(1, thing) for thing in seconds])


def _square_over(many, left, member):
    """Lead a pair to a heap of two if it does not descend, otherwise to a family of two."""
    one, other = member
    if one <= other:
        return (0, member)
    return (1, (other, one))


def _square_back(many, left, member):
    """Lead a heap of two or a family of two to a pair."""
    side, things = member
    return things if side == 0 else things[::-1]


def _least_gone_over(family, heap):
    """Return the pair of a family and a heap in which the least thing has gone over from one to the other."""
    if len(heap) == 0 or (len(family) > 0 and family[0] <= heap[0]):
        return (family[1:], family[:1] + heap)
    return (heap[:1] + family, heap[1:])


def _parity_led(count, others, member):
    """Lead a member of one side of parity, a chain of so many, to the other side, a chain of so many others."""
    _, (family, heap) = out_of_chain(count, member)
    led = _least_gone_over(family, heap)
    # There are families of 0, 2, .. things on the left and of 1, 3, .. things on the right.
    return in_chain(len(led[0]) // 2, others, led)


def _parity_size(left):
    """Return how many things the family and the heap of parity have together."""
    return first_of_chain(left)[2][1]


def _parity_over(many, left, member):
    """Lead a member of the left side of parity to the right side."""
    size = _parity_size(left)
    return _parity_led(size // 2 + 1, (size + 1) // 2, member)


def _parity_back(many, left, member):
    """Lead a member of the right side of parity to the left side."""
    size = _parity_size(left)
    return _parity_led((size + 1) // 2, size // 2 + 1, member)


def _rounds_over(many, left, member):
    """Lead rounds of two meetings to those of the first and those of the second ones."""
    return tuple([tuple([won[meeting:meeting + 1] for won in member]) for meeting in range(2)])


def _rounds_back(many, left, member):
    """Lead two rounds of one meeting to the rounds of two."""
    return tuple([first + second for first, second in zip(member[0], member[1])])


def _code_over(many, left, member):
    """Lead a tree or a rooted tree to its code, that of a tree behind all names."""
    return code_member(many, left, member)


def _code_back(many, left, member):
    """Lead a code to its tree or rooted tree."""
    return of_code_member(many, left, member)


# The functions that lead members where patterns cannot tell them.
OVERS = {
    "list_first": _first_over,
    "heap_unit": _units_over,
    "family_either": _sides_over,
    "heap_either": _sides_over,
    "square": _square_over,
    "parity": _parity_over,
    "rounds_again": _rounds_over,
    "trees_code": _code_over,
    "rooted_code": _code_over,
}
BACKS = {
    "list_first": _first_back,
    "heap_unit": _units_back,
    "family_either": _sides_back,
    "heap_either": _sides_back,
    "square": _square_back,
    "parity": _parity_back,
    "rounds_again": _rounds_back,
    "trees_code": _code_back,
    "rooted_code": _code_back,
}


def _by_patterns(word, member, back):
    """Return the member that corresponds by the patterns of a rule."""
    if back:
        found = [told_over(other, member, one) for one, other in MEMBERS[word]]
    else:
        found = [told_over(one, member, other) for one, other in MEMBERS[word]]
    # Just one of the pairs of patterns tells of a member.
    return [led for led in found if led is not None][0]


def corresponding(many, word, left, member, back):
    """Return the right member of a rule that corresponds to a left one; with back the other way about."""
    if word in MEMBERS:
        return _by_patterns(word, member, back)
    if back:
        lead = BACKS[word]
    else:
        lead = OVERS[word]
    return lead(many, left, member)


def _need_rule(many, word):
    """Raise BadRule of what is the word of no rule."""
    need_many(many)
    if not isinstance(word, str) or word not in RULES:
        raise BadRule(word)


def fits(many, word, left, right):
    """Whether the two sorts are the left and the right side of the rule."""
    _need_rule(many, word)
    need_sort(many, left)
    need_sort(many, right)
    return right_of(many, word, left) == right


def other_side(many, word, sort, *, back=False):
    """Return the right side that goes with the sort as the left one, with back the other way about; or None."""
    _need_rule(many, word)
    need_sort(many, sort)
    if back:
        side = left_of(many, word, sort)
    else:
        side = right_of(many, word, sort)
    if side is None or not is_sort(many, side):
        return None
    return side


def member_over(many, word, left, right, member, *, back=False):
    """Return the member of the right side that corresponds to one of the left side, with back the other way about."""
    if not fits(many, word, left, right):
        raise BadRule(word)
    if not holds_member(many, right if back else left, member):
        raise BadMember(member)
    return corresponding(many, word, left, member, back)
