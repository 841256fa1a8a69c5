"""The lines of sheets: what their words give and say, and whether what they say holds.

What is given is a dict: for each name ("sort", sort), ("member", sort, member), ("way", way) or
("derivation", steps). A saying is a tuple of a word and of what it tells of. TO is the pair of a
sort and a member.
"""

from unithouse.alike import are_alike
from unithouse.counts import content_counts
from unithouse.deedwords import take_steps, take_way
from unithouse.derivations import derivation
from unithouse.errors import BadStep
from unithouse.memberwords import take_member
from unithouse.members import MOST_OF_A_NAME, content_in
from unithouse.readings import moved
from unithouse.rows import evener
from unithouse.sorts import count_of, need_sort
from unithouse.sortwords import take_sort
from unithouse.strings import exchanged_pair
from unithouse.ways import led
from unithouse.words import numbers_up_to, take_content, take_name

MOST_SIGNS = 12
MOST_DIGITS = 40


def _is_new_name(word, given):
    """Whether a word is a name that is not given yet; the empty word is none."""
    if not word.isascii() or not word.isalnum() or len(word) > MOST_SIGNS:
        return False
    return word[0].isupper() and word not in given


def take_new_name(words, given):
    """Take a name that is not given yet; return it."""
    return words.take_if(_is_new_name(words.ahead(), given))


def _take_given(words, given, kind):
    """Take a name of a kind; return what is given by it."""
    return given[words.take([name for name, entry in given.items() if entry[0] == kind])]


def _sorts_given(given):
    """Return a dict with the sorts that are given."""
    return {name: entry[1] for name, entry in given.items() if entry[0] == "sort"}


def _take_last_sort(words, many, given):
    """Take the words of a sort up to the last one of the line; return it."""
    sort = take_sort(words, _sorts_given(given))
    words.need_end()
    return need_sort(many, sort)


def _take_sort_and(words, many, given, word):
    """Take the words of a sort and the word that follows it; return the sort."""
    sort = take_sort(words, _sorts_given(given))
    words.take((word,))
    return need_sort(many, sort)


def _take_whole(words):
    """Take an integer from 0 that has not too many digits; return it."""
    word = words.ahead()
    right = word.isascii() and word.isdigit() and len(word) <= MOST_DIGITS
    return int(words.take_if(right and (word == "0" or word[0] != "0")))


def take_entry(words, many, given, kind):
    """Take the words behind the name of a line that gives something of a kind; return what it gives."""
    if kind == "member":
        words.take(("of",))
        sort = _take_sort_and(words, many, given, "is")
        entry = (kind, sort, take_member(words, many, sort))
        words.need_end()
        return entry
    words.take(("is",))
    if kind == "sort":
        return (kind, _take_last_sort(words, many, given))
    if kind == "way":
        return (kind, take_way(words, many))
    return (kind, take_steps(words, many, _sorts_given(given), True))


def _take_of_member(words, many, given, entry):
    """Take the words of a saying behind the name of a member; return the saying."""
    word = words.take(("content", "transfer", "exchange", "along"))
    told = [word, entry[1], entry[2]]
    if word == "content":
        told.append(take_content(words, many))
    elif word == "along":
        told.append(_take_given(words, given, "way")[1])
        told.append(_take_given(words, given, "member")[1:])
    else:
        one = take_name(words, list(range(many)))
        other = take_name(words, [name for name in range(many) if name != one])
        told.extend([one, other])
        if word == "transfer" and words.ahead() == "none":
            told.append(words.take(("none",)))
        else:
            told.append(_take_given(words, given, "member")[1:])
    words.need_end()
    return tuple(told)


def _take_of_sort(words, many, given, entry):
    """Take the words of a saying behind the name of a sort; return the saying."""
    word = words.take(("members", "at", "like"))
    if word == "like":
        return (word, entry[1], _take_last_sort(words, many, given))
    told = [word, entry[1]]
    if word == "at":
        told.append(take_content(words, many))
        words.take(("members",))
    told.append(_take_whole(words))
    words.need_end()
    return tuple(told)


def _take_of_derivation(words, many, given, entry):
    """Take the words of a saying behind the name of a derivation; return the saying."""
    words.take(("from",))
    start = _take_sort_and(words, many, given, "to")
    return ("from", entry[1], start, _take_last_sort(words, many, given))


def _take_of_content(words, many):
    """Take the words of a saying that begins with a content; return it."""
    row = take_content(words, many)
    words.take(("evens",))
    told = ("evens", row, take_content(words, many))
    words.need_end()
    return told


def take_saying(words, many, given):
    """Take the words of a saying, up to the last one of the line; return it."""
    if words.ahead() in numbers_up_to(MOST_OF_A_NAME):
        return _take_of_content(words, many)
    entry = given[words.take([name for name, one in given.items() if one[0] != "way"])]
    if entry[0] == "member":
        return _take_of_member(words, many, given, entry)
    if entry[0] == "sort":
        return _take_of_sort(words, many, given, entry)
    return _take_of_derivation(words, many, given, entry)


def _holds_content(many, sort, member, content):
    """Whether a member has the content."""
    return content_in(many, sort, member) == content


def _holds_transfer(many, sort, member, giver, taker, to):
    """Whether a transfer leads a member to TO, or there is none if that is told."""
    behind = moved(many, sort, member, giver, taker)
    if to == "none":
        return behind is None
    return to == (sort, behind)


def _holds_exchange(many, sort, member, one, other, to):
    """Whether the exchange leads a member to TO."""
    return to == (sort, exchanged_pair(many, sort, member, min(one, other), max(one, other)))


def _holds_along(many, sort, member, way, to):
    """Whether a way leads a member to TO."""
    try:
        return to == (sort, led(many, sort, member, way))
    except BadStep:
        return False


def _holds_members(many, sort, count):
    """Whether a sort has so many members."""
    return count_of(many, sort) == count


def _holds_at(many, sort, content, count):
    """Whether a sort has so many members of the content."""
    return content_counts(many, sort).get(content, 0) == count


def _holds_like(many, sort, other):
    """Whether two sorts are alike."""
    return are_alike(many, sort, other)


def _holds_from(many, steps, start, end):
    """Whether steps lead from a sort to another one; a step that is refused leads nowhere."""
    try:
        return derivation(many, start, steps).end == end
    except BadStep:
        return False


def _holds_evens(many, row, other):
    """Whether a row is evener than another one."""
    return evener(row, other)


HOLDS = {
    "content": _holds_content,
    "transfer": _holds_transfer,
    "exchange": _holds_exchange,
    "along": _holds_along,
    "members": _holds_members,
    "at": _holds_at,
    "like": _holds_like,
    "from": _holds_from,
    "evens": _holds_evens,
}


def saying_holds(many, saying):
    """Whether a saying holds."""
    word, *things = saying
    holds = HOLDS[word]
    return holds(many, *things)
