"""Sheets worked out by grammars and by the public functions of the package, for the tests to compare with."""

import re

from unithouse.alike import are_alike
from unithouse.counts import count_at
from unithouse.derivations import derivation
from unithouse.errors import BadStep, BadText, NoFree, UnitError
from unithouse.evenness import is_evener
from unithouse.members import content_of
from unithouse.readings import transfer
from unithouse.sorts import how_many
from unithouse.strings import exchange
from unithouse.texts import read_content, read_derivation, read_member, read_sort, read_way, sort_text
from unithouse.ways import led

from tests import reference_texts as by_hand


def is_new(word, given):
    return re.fullmatch(r"[A-Z][A-Za-z0-9]{0,11}", word) is not None and word not in given


def names_of(given, kind):
    return [[name] for name, entry in given.items() if entry[0] == kind]


def grammar_of(words, many, given):
    """Return the grammar of a line behind the first one; that of a line of a member ends ahead of the member."""
    unlike = [[one, other] for one in by_hand.LETTERS[:many] for other in by_hand.LETTERS[:many] if one != other]
    found = {**by_hand.STEPS, **by_hand.ways(many), **by_hand.contents(many)}
    found["<UNIT>"] = found["<UNIT>"] + names_of(given, "sort")
    found.update({
        "<NEW>": [[word] for word in set(words) if is_new(word, given)],
        "<P>": names_of(given, "member"), "<S>": names_of(given, "sort"), "<W>": names_of(given, "way"),
        "<D>": names_of(given, "derivation"), "<XY>": unlike,
        "<WHOLE>": [[word] for word in set(words) if re.fullmatch(r"0|[1-9][0-9]{0,39}", word)],
        "<LINE>": [["sort", "<NEW>", "is", "<SUM>"], ["member", "<NEW>", "of", "<SUM>", "is"], ["way", "<NEW>", "is", "<WAY>"],
                 ["derivation", "<NEW>", "is", "<STEPS>"], ["say", "<SAYING>"], ["deny", "<SAYING>"]],
        "<SAYING>": [["<P>", "content", "<CONTENT>"], ["<P>", "transfer", "<XY>", "<P>"], ["<P>", "transfer", "<XY>", "none"],
                   ["<P>", "exchange", "<XY>", "<P>"], ["<P>", "along", "<W>", "<P>"], ["<S>", "members", "<WHOLE>"],
                   ["<S>", "at", "<CONTENT>", "members", "<WHOLE>"], ["<S>", "like", "<SUM>"], ["<D>", "from", "<SUM>", "to", "<SUM>"],
                   ["<CONTENT>", "evens", "<CONTENT>"]],
    })
    return found


def spans_of(words):
    """Return the list of (first, behind) of the places of the sorts of a line that has a right form as far as it goes."""
    def behind(first, *ends):
        return next((at for at in range(first, len(words)) if words[at] in ends), len(words))

    kind = words[0]
    if kind == "sort":
        return [(3, len(words))]
    if kind == "member":
        return [(3, behind(3, "is"))]
    if kind == "derivation":
        return [(at + 1, behind(at, ";")) for at, word in enumerate(words) if word == "as"]
    if kind in ("say", "deny") and len(words) > 2 and words[2] == "like":
        return [(3, len(words))]
    if kind in ("say", "deny") and len(words) > 2 and words[2] == "from":
        at = behind(3, "to")
        return [(3, at), (at + 1, len(words))]
    return []


def whole(words, given):
    """Return the text of a sort without names of sorts."""
    return " ".join(f"( {given[word][2]} )" if word in given else word for word in words)


def read_line(number, words, many, given):
    """Read a line: change what is given or return a saying, with its canonical words."""
    head = words
    if words[0] == "member" and "is" in words[3:]:
        head = words[:words.index("is", 3) + 1]
    bad = by_hand.first_bad(grammar_of(words, many, given), "<LINE>", head)
    sorts, written, place = [], [], 0
    for first, behind in spans_of(words):
        if bad is not None and bad <= behind:
            break
        sort = read_sort(many, whole(words[first:behind], given))
        sorts.append(sort)
        written += words[place:first] + sort_text(many, sort).split()
        place = behind
    if bad is not None:
        raise BadText(number, bad)
    written = " ".join(written + words[place:])
    kind, rest = words[0], words[3:]
    if kind == "member":
        try:
            member = read_member(many, sorts[0], " ".join(words[len(head):]))
        except BadText as error:
            raise BadText(number, error.word + len(head)) from None
        given[words[1]] = ("member", sorts[0], member)
    elif kind == "sort":
        given[words[1]] = ("sort", sorts[0], sort_text(many, sorts[0]))
    elif kind == "way":
        given[words[1]] = ("way", read_way(many, " ".join(rest)))
    elif kind == "derivation":
        given[words[1]] = ("derivation", read_derivation(many, " ".join(written.split()[3:])))
    else:
        return written, (words, sorts, dict(given))
    return written, None


def holds(many, words, sorts, given):
    """Whether what the words of a saying tell holds."""
    what = words[2]
    if words[1].isdigit():
        row, other = read_content(many, " ".join(words[1:1 + many])), read_content(many, " ".join(words[2 + many:]))
        return is_evener(many, row, other)
    entry = given[words[1]]
    if what == "members":
        return how_many(many, entry[1]) == int(words[3])
    if what == "at":
        return count_at(many, entry[1], read_content(many, " ".join(words[3:3 + many]))) == int(words[-1])
    if what == "like":
        return are_alike(many, entry[1], sorts[0])
    if what == "from":
        try:
            return derivation(many, sorts[0], entry[1]).end == sorts[1]
        except BadStep:
            return False
    _, sort, member = entry
    if what == "content":
        return content_of(many, sort, member) == read_content(many, " ".join(words[3:]))
    goal = given.get(words[-1])
    try:
        if what == "along":
            behind = led(many, sort, member, given[words[3]][1])
        else:
            one, other = (by_hand.LETTERS.index(word) for word in words[3:5])
            behind = (transfer if what == "transfer" else exchange)(many, sort, member, one, other)
    except NoFree:
        return words[-1] == "none"
    except BadStep:
        return False
    return goal is not None and goal[1:] == (sort, behind)


def read_sheet(text):
    """Return (many, rows, text as the package writes it), or raise the first error."""
    lines = [(number, [word for word in piece.split(" ") if word]) for number, piece in enumerate(text.split("\n"))]
    (number, first), *others = [line for line in lines if line[1]]
    bad = by_hand.first_bad({"<N>": [["names", word] for word in "2345"]}, "<N>", first)
    if bad is not None:
        raise BadText(number, bad)
    many, given, sayings, written = int(first[1]), {}, [], [" ".join(first)]
    for number, words in others:
        told, saying = read_line(number, words, many, given)
        written.append(told)
        if saying:
            sayings.append((number, saying))
    rows = tuple((number, holds(many, *saying) == (saying[0][0] == "say")) for number, saying in sayings)
    return many, rows, "\n".join(written)


def outcome(call, *passed):
    """Return what a call returns, or the kind of its error and what it tells."""
    try:
        return call(*passed)
    except UnitError as error:
        return type(error).__name__, vars(error)
