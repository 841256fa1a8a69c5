"""Trees, rooted trees and their codes."""

from unithouse.errors import BadMember
from unithouse.sorts import is_name, need_many, rises


def _is_tie(many, value):
    """Whether a value is a pair of two names in ascending order."""
    if not isinstance(value, tuple) or len(value) != 2:
        return False
    if not is_name(many, value[0]) or not is_name(many, value[1]):
        return False
    return value[0] < value[1]


def _hang_together(many, ties):
    """Whether all names hang together by the ties."""
    groups = list(range(many))
    for one, other in ties:
        old = groups[one]
        new = groups[other]
        groups = [new if group == old else group for group in groups]
    return all([group == groups[0] for group in groups])


def holds_tree(many, value):
    """Whether a value is a tree over so many names."""
    if not isinstance(value, tuple) or len(value) != many - 1:
        return False
    if not all([_is_tie(many, tie) for tie in value]):
        return False
    return rises(value) and _hang_together(many, value)


def holds_rooted(many, value):
    """Whether a value is a rooted tree over so many names."""
    if not isinstance(value, tuple) or len(value) != 2:
        return False
    return is_name(many, value[0]) and holds_tree(many, value[1])


def is_tree(many, value):
    """Whether a value is a member of ("trees",)."""
    need_many(many)
    return holds_tree(many, value)


def is_rooted(many, value):
    """Whether a value is a member of ("rooted",)."""
    need_many(many)
    return holds_rooted(many, value)


def code_of_rooted(many, rooted):
    """Return the code of a rooted tree that was checked."""
    root, ties = rooted
    left = list(ties)
    code = []
    while len(left) > 0:
        ends = [name for tie in left for name in tie]
        leaf = min([name for name in range(many) if name != root and ends.count(name) == 1])
        last_tie = [tie for tie in left if leaf in tie][0]
        code.append(sum(last_tie) - leaf)
        left = [tie for tie in left if leaf not in tie]
    return tuple(code)


def code_of_tree(many, tree):
    """Return the code of a tree that was checked.

    Of two or more names that are left two are tied to just one, so the last name is never the
    least of these: it stays, as a root does, and the code is that of the tree rooted there,
    without the root itself.
    """
    return code_of_rooted(many, (many - 1, tree))[:-1]


def rooted_of_code(many, code):
    """Return the rooted tree that has a code of many - 1 names."""
    left = list(range(many))
    ties = []
    for at, letter in enumerate(code):
        # What is still to be written has children left; the root is among it, as the last letter.
        later = code[at:]
        leaf = min([name for name in left if name not in later])
        ties.append((min(leaf, letter), max(leaf, letter)))
        left = [name for name in left if name != leaf]
    return (code[-1], tuple(sorted(ties)))


def tree_of_code(many, code):
    """Return the tree that has a code of many - 2 names: code_of_tree tells why a root is put."""
    return rooted_of_code(many, code + (many - 1,))[1]


def code_in(many, sort, member):
    """Return the code of a checked member of trees or of rooted."""
    if sort[0] == "trees":
        return code_of_tree(many, member)
    return code_of_rooted(many, member)


def of_code(many, sort, code):
    """Return the member of trees or of rooted that has a code."""
    if sort[0] == "trees":
        return tree_of_code(many, code)
    return rooted_of_code(many, code)


def code_sort(many, sort):
    """Return the sort that is like trees or like rooted by the codes.

    In a tree each name has one mark more than letters in the code, so all names stand ahead of it.
    """
    if sort[0] == "trees":
        return ("pair", ("subset", many), ("list", many - 2, ("one",)))
    return ("list", many - 1, ("one",))


def code_member(many, sort, member):
    """Return the member of the code sort that goes with a member of trees or of rooted."""
    code = code_in(many, sort, member)
    if sort[0] == "trees":
        return (tuple(range(many)), code)
    return code


def of_code_member(many, sort, told):
    """Return the member of trees or of rooted that goes with a member of the code sort."""
    if sort[0] == "trees":
        return tree_of_code(many, told[1])
    return rooted_of_code(many, told)


def _need_code(many, code, length):
    """Raise BadMember of what is no tuple of so many names."""
    if not isinstance(code, tuple) or len(code) != length:
        raise BadMember(code)
    if not all([is_name(many, letter) for letter in code]):
        raise BadMember(code)


def tree_code(many, tree):
    """Return the code of a tree."""
    if not is_tree(many, tree):
        raise BadMember(tree)
    return code_of_tree(many, tree)


def coded_tree(many, code):
    """Return the tree that has the code."""
    need_many(many)
    _need_code(many, code, many - 2)
    return tree_of_code(many, code)


def rooted_code(many, rooted):
    """Return the code of a rooted tree."""
    if not is_rooted(many, rooted):
        raise BadMember(rooted)
    return code_of_rooted(many, rooted)


def coded_rooted(many, code):
    """Return the rooted tree that has the code."""
    need_many(many)
    _need_code(many, code, many - 1)
    return rooted_of_code(many, code)
