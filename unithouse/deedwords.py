"""The words of texts of ways and of the steps of derivations, and those that are taken.

These functions trust their ways and steps.
"""

from unithouse.derivations import MOST_STEPS
from unithouse.rules import RULES
from unithouse.sorts import need_sort
from unithouse.sortwords import sort_words, take_sort
from unithouse.ways import MOST_DEEDS
from unithouse.words import letter_of, take_name

MOST_OF_A_PATH = 9
BETWEEN = ";"


def _joined(rows):
    """Return the list of the words of some rows, with the word that stands between two."""
    words = []
    for row in rows:
        if len(words) > 0:
            words.append(BETWEEN)
        words.extend(row)
    return words


def way_words(way):
    """Return the list of the words of a way."""
    return _joined([[word, letter_of(one), letter_of(other)] for word, one, other in way])


def _step_words(step):
    """Return the list of the words of a step of a derivation."""
    path, word, back, put = step
    words = [str(at) for at in path] + [word]
    if back:
        words.append("back")
    return words + ["as"] + sort_words(put)


def derivation_words(steps):
    """Return the list of the words of the steps of a derivation."""
    return _joined([_step_words(step) for step in steps])


def _goes_on(words, count, most):
    """Take the word that stands between two; return whether there is one. No more than the most may come."""
    if words.is_done():
        return False
    words.take_if(count < most and words.ahead() == BETWEEN)
    return True


def _take_deed(words, many):
    """Take the words of a deed; return it."""
    word = words.take(("transfer", "exchange"))
    one = take_name(words, list(range(many)))
    return (word, one, take_name(words, [name for name in range(many) if name != one]))


def take_way(words, many):
    """Take the words of a way, up to the last one of the line; return it."""
    deeds = []
    going = not words.is_done()
    while going:
        deeds.append(_take_deed(words, many))
        going = _goes_on(words, len(deeds), MOST_DEEDS)
    return tuple(deeds)


def _take_step(words, given):
    """Take the words of a step; return it, whatever need_sort says of its sort."""
    path = []
    while len(path) < MOST_OF_A_PATH and words.ahead() in ("1", "2"):
        path.append(int(words.take(("1", "2"))))
    word = words.take(RULES)
    back = words.take(("back", "as")) == "back"
    if back:
        words.take(("as",))
    return (tuple(path), word, back, take_sort(words, given))


def take_steps(words, many, given, at_once):
    """Take the words of the steps of a derivation, up to the last one of the line; return the tuple of them.

    The sorts that are given have names. At once tells whether need_sort looks at a sort directly
    behind the word that follows it, or not at all.
    """
    steps = []
    going = not words.is_done()
    while going:
        steps.append(_take_step(words, given))
        going = _goes_on(words, len(steps), MOST_STEPS)
        if at_once:
            need_sort(many, steps[-1][-1])
    return tuple(steps)
