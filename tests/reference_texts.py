"""Texts worked out in the plainest way, for the tests to compare with: grammars, and which word is the first bad one."""

from functools import lru_cache

from unithouse.rules import RULES

from tests import reference

NUMBERS = [str(number) for number in range(13)]
LETTERS = "abcde"

# The grammar of sorts, as point 77 tells it.
SORTS = {
    "<SUM>": [["<PRODUCT>"], ["<SUM>", "+", "<PRODUCT>"]],
    "<PRODUCT>": [["<UNIT>"], ["<PRODUCT>", "*", "<UNIT>"]],
    "<UNIT>": [["none"], ["one"], ["trees"], ["rooted"], ["subset", "<K>"], ["bag", "<K>"], ["rounds", "<M>"],
             ["list", "<K>", "of", "<UNIT>"], ["family", "<K>", "of", "<UNIT>"], ["heap", "<K>", "of", "<UNIT>"],
             ["(", "<SUM>", ")"]],
    "<K>": [[number] for number in NUMBERS],
    "<M>": [["1"], ["2"]],
}

STEPS = {
    **SORTS,
    "<STEPS>": [[], ["<SOME>"]],
    "<SOME>": [["<STEP>"], ["<SOME>", ";", "<STEP>"]],
    "<STEP>": [["<PATH9>", "<RULE>", "as", "<SUM>"], ["<PATH9>", "<RULE>", "back", "as", "<SUM>"]],
    "<PATH0>": [[]],
    **{f"<PATH{size}>": [[], ["1", f"<PATH{size - 1}>"], ["2", f"<PATH{size - 1}>"]] for size in range(1, 10)},
    "<RULE>": [[word] for word in RULES],
}


def ways(many):
    """Return the grammar of ways, whatever their length."""
    letters = LETTERS[:many]
    return {
        "<WAY>": [[], ["<DEEDS>"]],
        "<DEEDS>": [["<DEED>"], ["<DEEDS>", ";", "<DEED>"]],
        "<DEED>": [[word, one, other] for word in ("transfer", "exchange") for one in letters for other in letters
                 if one != other],
    }


def contents(many):
    """Return the grammar of contents."""
    return {"<CONTENT>": [["<N>"] * many], "<N>": [[str(number)] for number in range(25)]}


def first_bad(grammar, start, words):
    """Return the number of the first word that no text begins with, that of all words if they are no text, or None.

    All states (rule, how much of it was read, where it began) are kept, word by word.
    """
    charts = [{("", 0, 0, (start,))}]
    for at in range(len(words) + 1):
        states = charts[at]
        done = False
        while not done:
            new = set()
            for name, dot, begun, body in states:
                if dot == len(body):
                    new |= {(other, dot2 + 1, begun2, body2) for other, dot2, begun2, body2 in charts[begun]
                            if dot2 < len(body2) and body2[dot2] == name}
                elif body[dot] in grammar:
                    new |= {(body[dot], 0, at, tuple(one)) for one in grammar[body[dot]]}
            done = new <= states
            states |= new
        if at == len(words):
            return None if ("", 1, 0, (start,)) in states else len(words)
        behind = {(name, dot + 1, begun, body) for name, dot, begun, body in states
                  if dot < len(body) and body[dot] not in grammar and body[dot] == words[at]}
        if not behind:
            return at
        charts.append(behind)
    return None


def member_words(many, sort, member):
    """Return the tuple of the words of a member, as point 78 tells it."""
    word = sort[0]
    if word == "one":
        return (LETTERS[member],)
    if word in ("subset", "bag"):
        return ("".join(LETTERS[name] for name in member),) if member else ()
    if word == "either":
        return (str(member[0]),) + member_words(many, sort[1 + member[0]], member[1])
    if word == "pair":
        return member_words(many, sort[1], member[0]) + member_words(many, sort[2], member[1])
    if word in ("list", "family", "heap"):
        return tuple(told for thing in member for told in member_words(many, sort[2], thing))
    if word in ("rounds", "trees"):
        return tuple("".join(LETTERS[name] for name in row) for row in member)
    root, ties = member
    signs = []
    for name in range(many):
        # The next name on the way to the root: it hangs together with the root without this name.
        signs.append("." if name == root else LETTERS[next(
            other for other in range(many) if (min(name, other), max(name, other)) in ties
            and root in reference.reached(other, [tie for tie in ties if name not in tie]))])
    return ("".join(signs),)


@lru_cache(maxsize=None)
def texts_of(many, sort):
    """Return a dict with the member of each tuple of words."""
    return {member_words(many, sort, member): member for member in reference.all_members(many, sort)}


@lru_cache(maxsize=None)
def beginnings(many, sort):
    """Return the set of all beginnings of texts of members."""
    return {words[:at] for words in texts_of(many, sort) for at in range(len(words) + 1)}


def first_bad_of_member(many, sort, words):
    """Return the number of the first bad word of a text of a member, None if it is one."""
    found = beginnings(many, sort)
    if not found:
        return 0
    for at in range(len(words)):
        if tuple(words[:at + 1]) not in found:
            return at
    return None if tuple(words) in texts_of(many, sort) else len(words)
