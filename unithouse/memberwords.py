"""The words of texts of members: those of a member, and the member of those that are taken.

These functions trust their sorts and members.
"""

from unithouse.codes import holds_rooted
from unithouse.listing import all_trees, number_of
from unithouse.members import holds_member, pairs_of_names, things_in
from unithouse.sorts import count_of
from unithouse.words import NAME_LETTERS, letter_of, letters_of, names_told, take_name

ROOT = "."


def _parents_of(rooted):
    """Return a dict with the name whose child each name but the root is."""
    root, ties = rooted
    parents = {}
    waiting = [root]
    left = list(ties)
    while len(waiting) > 0:
        name = waiting.pop()
        children = [sum(tie) - name for tie in left if name in tie]
        for child in children:
            parents[child] = name
        waiting.extend(children)
        left = [tie for tie in left if name not in tie]
    return parents


def _rooted_word(many, rooted):
    """Return the word of a rooted tree."""
    parents = _parents_of(rooted)
    return "".join([letter_of(parents[name]) if name in parents else ROOT for name in range(many)])


def member_words(many, sort, member):
    """Return the list of the words of a member."""
    word = sort[0]
    if word == "one":
        return [letter_of(member)]
    if word in ("subset", "bag"):
        return [letters_of(member)] if len(member) > 0 else []
    if word in ("rounds", "trees"):
        return [letters_of(names) for names in member]
    if word == "rooted":
        return [_rooted_word(many, member)]
    words = [str(member[0])] if word == "either" else []
    for part, thing in things_in(sort, member):
        words.extend(member_words(many, part, thing))
    return words


def _take_letters(words, many, sort, least, most):
    """Take the word of a subset or a bag with a number from least to most; return the member."""
    if sort[1] == 0:
        return ()
    member = names_told(many, words.ahead())
    words.take_if(holds_member(many, sort, member) and least <= number_of(many, sort, member) <= most)
    return member


def _take_either(words, many, sort, least, most):
    """Take the words of a member of an either with a number from least to most; return the member."""
    firsts = count_of(many, sort[1])
    sides = []
    if least < firsts:
        sides.append("0")
    if most >= firsts:
        sides.append("1")
    if words.take(sides) == "0":
        return (0, _take_numbered(words, many, sort[1], least, min(most, firsts - 1)))
    return (1, _take_numbered(words, many, sort[2], max(least - firsts, 0), most - firsts))


def _take_row(words, many, sort):
    """Take the words of a member of a family or a heap; return the member."""
    word, size, part = sort
    last = count_of(many, part) - 1
    row = []
    least = 0
    for at in range(size):
        # Behind a thing of a family as many greater ones must be left as are still to come.
        most = last - (size - 1 - at) if word == "family" else last
        row.append(_take_numbered(words, many, part, least, most))
        least = number_of(many, part, row[-1])
        if word == "family":
            least += 1
    return tuple(row)


def _take_rounds(words, many, meetings):
    """Take the words of a member of rounds; return the member."""
    rounds = []
    for pair in pairs_of_names(many):
        won = names_told(many, words.ahead())
        words.take_if(won is not None and len(won) == meetings and all([name in pair for name in won]))
        rounds.append(won)
    return tuple(rounds)


def _take_tree(words, many):
    """Take the words of a tree; return it."""
    left = all_trees(many)
    for at in range(many - 1):
        word = words.take([letters_of(tree[at]) for tree in left])
        left = [tree for tree in left if letters_of(tree[at]) == word]
    return left[0]


def _rooted_told(many, word):
    """Return the rooted tree of which a word tells, None if it tells of none."""
    if len(word) != many or word.count(ROOT) != 1:
        return None
    root = word.index(ROOT)
    parents = names_told(many, word[:root] + NAME_LETTERS[root] + word[root + 1:])
    if parents is None:
        return None
    ties = [(min(name, other), max(name, other)) for name, other in enumerate(parents) if name != root]
    rooted = (root, tuple(sorted(ties)))
    return rooted if holds_rooted(many, rooted) else None


def _take_rooted(words, many):
    """Take the word of a rooted tree; return it."""
    rooted = _rooted_told(many, words.ahead())
    words.take_if(rooted is not None)
    return rooted


def _take_numbered(words, many, sort, least, most):
    """Take the words of a member with a number from least to most; return the member.

    There is such a member. Less than all numbers are told for single sorts alone.
    """
    word = sort[0]
    if word == "one":
        return take_name(words, list(range(least, most + 1)))
    if word in ("subset", "bag"):
        return _take_letters(words, many, sort, least, most)
    if word == "either":
        return _take_either(words, many, sort, least, most)
    if word == "pair":
        first = _take_any(words, many, sort[1])
        return (first, _take_any(words, many, sort[2]))
    if word == "list":
        return tuple([_take_any(words, many, sort[2]) for _ in range(sort[1])])
    if word == "rounds":
        return _take_rounds(words, many, sort[1])
    if word == "trees":
        return _take_tree(words, many)
    if word == "rooted":
        return _take_rooted(words, many)
    return _take_row(words, many, sort)


def _take_any(words, many, sort):
    """Take the words of any member of a sort that has one; return the member."""
    return _take_numbered(words, many, sort, 0, count_of(many, sort) - 1)


def take_member(words, many, sort):
    """Take the words of a member of a sort; return it."""
    if count_of(many, sort) == 0:
        words.refuse()
    return _take_any(words, many, sort)
