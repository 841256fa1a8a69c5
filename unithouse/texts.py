"""Texts of sorts, members, contents, ways and derivations: how they are written and read."""

from unithouse.deedwords import MOST_OF_A_PATH, derivation_words, take_steps, take_way, way_words
from unithouse.derivations import MOST_STEPS
from unithouse.errors import BadStep, TooGreat
from unithouse.members import need_content, need_member
from unithouse.memberwords import member_words, take_member
from unithouse.rules import RULES
from unithouse.sorts import is_sort, is_whole, need_many, need_sort
from unithouse.sortwords import sort_words, take_sort
from unithouse.ways import need_deeds
from unithouse.words import content_words, take_content, words_to_read


def sort_text(many, sort):
    """Return the text of the sort with the fewest words."""
    need_sort(many, sort)
    return " ".join(sort_words(sort))


def read_sort(many, text):
    """Return the sort of which the text tells."""
    need_many(many)
    words = words_to_read(text)
    sort = take_sort(words, {})
    words.need_end()
    return need_sort(many, sort)


def member_text(many, sort, member):
    """Return the text of the member."""
    need_member(many, sort, member)
    return " ".join(member_words(many, sort, member))


def read_member(many, sort, text):
    """Return the member of which the text tells."""
    need_sort(many, sort)
    words = words_to_read(text)
    member = take_member(words, many, sort)
    words.need_end()
    return member


def content_text(many, content):
    """Return the text of the content."""
    need_content(many, content)
    return " ".join(content_words(content))


def read_content(many, text):
    """Return the content of which the text tells."""
    need_many(many)
    words = words_to_read(text)
    content = take_content(words, many)
    words.need_end()
    return content


def way_text(many, way):
    """Return the text of the way."""
    need_many(many)
    need_deeds(many, way)
    return " ".join(way_words(way))


def read_way(many, text):
    """Return the way of which the text tells."""
    need_many(many)
    return take_way(words_to_read(text), many)


def _is_path(value):
    """Whether a value is a path as texts have it."""
    if not isinstance(value, tuple) or len(value) > MOST_OF_A_PATH:
        return False
    return all([is_whole(at) and 1 <= at <= 2 for at in value])


def _is_step(many, value):
    """Whether a value is a step as texts have it."""
    if not isinstance(value, tuple) or len(value) != 4:
        return False
    path, word, back, put = value
    return _is_path(path) and word in RULES and isinstance(back, bool) and is_sort(many, put)


def derivation_text(many, steps):
    """Return the text of the steps of a derivation."""
    need_many(many)
    if not isinstance(steps, (list, tuple)):
        raise BadStep(0)
    if len(steps) > MOST_STEPS:
        raise TooGreat(MOST_STEPS)
    for place, step in enumerate(steps):
        if not _is_step(many, step):
            raise BadStep(place)
    return " ".join(derivation_words(steps))


def read_derivation(many, text):
    """Return the tuple of the steps of which the text tells."""
    need_many(many)
    steps = take_steps(words_to_read(text), many, {}, False)
    for step in steps:
        need_sort(many, step[-1])
    return steps
