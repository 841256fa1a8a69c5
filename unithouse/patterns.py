"""Patterns: what a value looks like, with letters for things that are free.

A letter stands for anything, but for the same thing wherever it stands in a pattern. In a tuple
each thing is a pattern; everything else stands for itself.
"""

LETTERS = ("A", "B", "C", "K", "M", "S", "V", "X", "Y", "Z")


def _letters_in(pattern, value):
    """Return the list of tuples (letter, thing) for which a value has a pattern, None if it does not have it."""
    if pattern in LETTERS:
        return [(pattern, value)]
    if not isinstance(pattern, tuple):
        return [] if pattern == value else None
    if not isinstance(value, tuple) or len(value) != len(pattern):
        return None
    found = []
    for part, thing in zip(pattern, value):
        inner = _letters_in(part, thing)
        if inner is None:
            return None
        found.extend(inner)
    return found


def held_by(pattern, value):
    """Return a dict of what each letter of a pattern stands for in a value, None if it does not have the pattern."""
    letters = _letters_in(pattern, value)
    if letters is None:
        return None
    held = {letter: thing for letter, thing in letters}
    if any([held[letter] != thing for letter, thing in letters]):
        return None
    return held


def filled(pattern, held):
    """Return what a pattern tells with things for its letters, None if one of them is not told."""
    if pattern in LETTERS:
        return held.get(pattern)
    if not isinstance(pattern, tuple):
        return pattern
    things = [filled(part, held) for part in pattern]
    if any([thing is None for thing in things]):
        return None
    return tuple(things)


def told_over(pattern, value, other):
    """Return what another pattern tells with the letters that a value has in a pattern, None if it does not tell it."""
    held = held_by(pattern, value)
    if held is None:
        return None
    return filled(other, held)
