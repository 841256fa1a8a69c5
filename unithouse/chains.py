"""Chains: sorts joined by eithers, each either with one of them first and the chain of the others.

A sort alone is a chain, too, and its members are those of the chain.
"""


def chain_of(sorts, word="either"):
    """Return the chain of some sorts, one at least; with "pair" it is joined by pairs."""
    whole = sorts[-1]
    for sort in sorts[-2::-1]:
        whole = (word, sort, whole)
    return whole


def in_chain(place, count, member):
    """Return the member of a chain of so many sorts that a member of the one at the place is."""
    led = member
    if place < count - 1:
        led = (0, member)
    for _ in range(place):
        led = (1, led)
    return led


def out_of_chain(count, member):
    """Return the pair of the place of a sort in a chain of so many and of the member of it that stands there."""
    place = 0
    led = member
    while place < count - 1:
        side, led = led
        if side == 0:
            break
        place += 1
    return (place, led)
