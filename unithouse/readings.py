"""The reading of a member for two names, and the transfers that it lets.

`brackets`, `flipped`, `free_in` and `moved` trust what they are passed: they are for the other
modules. LOW and HIGH are the lesser and the greater one of the two names throughout.
"""

from unithouse.codes import code_in, of_code
from unithouse.errors import NoFree
from unithouse.members import need_member, pairs_of_names, row_form, things_in
from unithouse.sorts import need_pair


def _bracket_of(name, low, high):
    """Return the bracket where a name stands, nothing if it is neither of both."""
    if name == low:
        return "("
    if name == high:
        return ")"
    return ""


def _winner(many, member, one, other, meeting):
    """Return who won a meeting of two names, which may stand in either order."""
    pair = (min(one, other), max(one, other))
    return member[pairs_of_names(many).index(pair)][meeting]


def _meeting_places(many, sort, member, low, high):
    """Return the list of tuples (bracket, name, meeting) of the places of a member of rounds.

    The name is the one whom LOW and HIGH met; it is HIGH where they met each other.
    """
    places = []
    for meeting in range(sort[1]):
        places.append((_bracket_of(_winner(many, member, low, high, meeting), low, high), high, meeting))
    for name in [third for third in range(many) if third not in (low, high)]:
        for meeting in range(sort[1]):
            low_won = _winner(many, member, low, name, meeting) == low
            high_won = _winner(many, member, high, name, meeting) == high
            if low_won and not high_won:
                places.append(("(", name, meeting))
            elif high_won and not low_won:
                places.append((")", name, meeting))
    return places


def _with_other_winner(many, member, one, other, meeting):
    """Return a member of rounds in which the loser of a meeting of two names has won it."""
    pair = (min(one, other), max(one, other))
    at = pairs_of_names(many).index(pair)
    won = member[at]
    loser = sum(pair) - won[meeting]
    turned = won[:meeting] + (loser,) + won[meeting + 1:]
    return member[:at] + (turned,) + member[at + 1:]


def _flipped_rounds(many, sort, member, low, high, place):
    """Return a member of rounds with the place flipped."""
    _, name, meeting = _meeting_places(many, sort, member, low, high)[place]
    flipped_once = _with_other_winner(many, member, low, name, meeting)
    if name == high:
        return flipped_once
    # Just one of both has won: they exchange their results if either result is turned over.
    return _with_other_winner(many, flipped_once, high, name, meeting)


def _both_things(many, sort, member, low, high):
    """Return the list of the pairs (T, U), ascending, of which T or U stands in a row.

    T is a thing in which LOW stands and HIGH does not, U is T with HIGH in the stead of LOW: the
    reading of a member of a single sort has one place at most, and just these have one.
    """
    part = row_form(sort)[2]
    lows = []
    for thing in member:
        text = brackets(many, part, thing, low, high)
        if text == "(":
            lows.append(thing)
        elif text == ")":
            lows.append(flipped(many, part, thing, low, high, 0))
    lows = sorted(lows)
    once = [thing for at, thing in enumerate(lows) if at == 0 or thing != lows[at - 1]]
    return [(thing, flipped(many, part, thing, low, high, 0)) for thing in once]


def _brackets_of_both(sort, member, with_low, with_high):
    """Return the brackets of the places for a T and its U in a subset, bag, family or heap."""
    text = ")" * member.count(with_high) + "(" * member.count(with_low)
    if row_form(sort)[0] == "family" and len(text) == 2:
        return ""
    return text


def _flipped_row(many, sort, member, low, high, place):
    """Return a member of a subset, bag, family or heap with the place flipped."""
    rest = place
    for with_low, with_high in _both_things(many, sort, member, low, high):
        text = _brackets_of_both(sort, member, with_low, with_high)
        if rest < len(text):
            old, new = with_low, with_high
            if text[rest] == ")":
                old, new = with_high, with_low
            at = member.index(old)
            return tuple(sorted(member[:at] + (new,) + member[at + 1:]))
        rest -= len(text)
    return member


def _with_thing(sort, member, at, thing):
    """Return a member of an either, a pair or a list with its thing numbered `at` replaced."""
    if sort[0] == "either":
        return (member[0], thing)
    return member[:at] + (thing,) + member[at + 1:]


def _flipped_inside(many, sort, member, low, high, place):
    """Return a member of an either, a pair or a list with the place flipped."""
    rest = place
    for at, (part, thing) in enumerate(things_in(sort, member)):
        size = len(brackets(many, part, thing, low, high))
        if rest < size:
            return _with_thing(sort, member, at, flipped(many, part, thing, low, high, rest))
        rest -= size
    return member


def brackets(many, sort, member, low, high):
    """Return the reading of a checked member for LOW and HIGH."""
    word = sort[0]
    if word == "one":
        return _bracket_of(member, low, high)
    if word == "rounds":
        places = _meeting_places(many, sort, member, low, high)
        return "".join([bracket for bracket, _, _ in places])
    if word in ("trees", "rooted"):
        code = code_in(many, sort, member)
        return "".join([_bracket_of(letter, low, high) for letter in code])
    if word in ("either", "pair", "list"):
        things = things_in(sort, member)
        return "".join([brackets(many, part, thing, low, high) for part, thing in things])
    both = _both_things(many, sort, member, low, high)
    return "".join([_brackets_of_both(sort, member, with_low, with_high) for with_low, with_high in both])


def flipped(many, sort, member, low, high, place):
    """Return the member that comes if the bracket at a place of the reading becomes the other one."""
    word = sort[0]
    if word == "one":
        return low + high - member
    if word == "rounds":
        return _flipped_rounds(many, sort, member, low, high, place)
    if word in ("trees", "rooted"):
        code = code_in(many, sort, member)
        at = [index for index, letter in enumerate(code) if letter in (low, high)][place]
        return of_code(many, sort, code[:at] + (low + high - code[at],) + code[at + 1:])
    if word in ("either", "pair", "list"):
        return _flipped_inside(many, sort, member, low, high, place)
    return _flipped_row(many, sort, member, low, high, place)


def free_in(text):
    """Return the pair of the tuples of the indexes of the free ")" and of the free "(" in a text."""
    closing = []
    opening = []
    for at, bracket in enumerate(text):
        if bracket == "(":
            opening.append(at)
        elif len(opening) > 0:
            opening.pop()
        else:
            closing.append(at)
    return (tuple(closing), tuple(opening))


def moved(many, sort, member, giver, taker):
    """Return the member to which the transfer leads, None if there is none; no member is None."""
    low = min(giver, taker)
    high = max(giver, taker)
    closing, opening = free_in(brackets(many, sort, member, low, high))
    if giver == low:
        places = opening[:1]
    else:
        places = closing[-1:]
    if len(places) == 0:
        return None
    return flipped(many, sort, member, low, high, places[0])


def need_member_and_pair(many, sort, member, name, other):
    """Return the two names, the lesser one first, behind the checks of the sort and the member."""
    need_member(many, sort, member)
    return need_pair(many, name, other)


def reading(many, sort, member, name, other):
    """Return the reading of the member for the two names."""
    low, high = need_member_and_pair(many, sort, member, name, other)
    return brackets(many, sort, member, low, high)


def free_brackets(many, sort, member, name, other):
    """Return the pair of the tuples of the indexes of the free ")" and of the free "("."""
    return free_in(reading(many, sort, member, name, other))


def can_transfer(many, sort, member, giver, taker):
    """Whether there is a transfer of the member from the giver to the taker."""
    need_member_and_pair(many, sort, member, giver, taker)
    return moved(many, sort, member, giver, taker) is not None


def transfer(many, sort, member, giver, taker):
    """Return the member to which the transfer from the giver to the taker leads."""
    need_member_and_pair(many, sort, member, giver, taker)
    led = moved(many, sort, member, giver, taker)
    if led is None:
        raise NoFree(giver, taker)
    return led


def transfers(many, sort, member):
    """Return the ascending tuple of the triples (GIVER, TAKER, MEMBER) of all transfers there are."""
    need_member(many, sort, member)
    found = []
    for giver in range(many):
        for taker in range(many):
            if taker == giver:
                continue
            led = moved(many, sort, member, giver, taker)
            if led is not None:
                found.append((giver, taker, led))
    return tuple(found)
