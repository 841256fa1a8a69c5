"""What the document says, worked out in the plainest way, for the tests to compare with."""

from functools import lru_cache
from itertools import combinations, combinations_with_replacement, product


def all_members(many, sort):
    """Return the ascending list of all members of a sort."""
    return list(_all_members(many, sort))


@lru_cache(maxsize=None)
def _all_members(many, sort):
    word = sort[0]
    names = range(many)
    if word == "none":
        found = []
    elif word == "one":
        found = list(names)
    elif word == "subset":
        found = list(combinations(names, sort[1]))
    elif word == "bag":
        found = list(combinations_with_replacement(names, sort[1]))
    elif word == "either":
        found = [(0, x) for x in all_members(many, sort[1])] + [(1, y) for y in all_members(many, sort[2])]
    elif word == "pair":
        found = list(product(all_members(many, sort[1]), all_members(many, sort[2])))
    elif word == "list":
        found = list(product(all_members(many, sort[2]), repeat=sort[1]))
    elif word == "family":
        found = list(combinations(all_members(many, sort[2]), sort[1]))
    elif word == "heap":
        found = list(combinations_with_replacement(all_members(many, sort[2]), sort[1]))
    elif word == "rounds":
        found = list(product(*[product(pair, repeat=sort[1]) for pair in combinations(names, 2)]))
    elif word == "trees":
        found = all_trees(many)
    else:
        found = list(product(names, all_trees(many)))
    return tuple(sorted(found))


def all_trees(many):
    pairs = list(combinations(range(many), 2))
    return [ties for ties in combinations(pairs, many - 1) if len(reached(0, ties)) == many]


def reached(name, ties):
    """Return the set of the names that hang together with a name."""
    found = {name}
    for _ in ties:
        for one, other in ties:
            if one in found or other in found:
                found |= {one, other}
    return found


def tree_code(many, tree):
    left, ties, code = set(range(many)), set(tree), []
    while len(left) > 2:
        take_leaf(left, ties, code, None)
    return tuple(code)


def rooted_code(many, rooted):
    root, tree = rooted
    left, ties, code = set(range(many)), set(tree), []
    while len(left) > 1:
        take_leaf(left, ties, code, root)
    return tuple(code)


def take_leaf(left, ties, code, root):
    for name in sorted(left):
        own = [tie for tie in ties if name in tie]
        if name != root and len(own) == 1:
            left.discard(name)
            ties.discard(own[0])
            code.append(own[0][0] if own[0][1] == name else own[0][1])
            return


def content(many, sort, member):
    """Return the content of a member."""
    marks = [0] * many
    add_marks(many, sort, member, marks)
    return tuple(marks)


def add_marks(many, sort, member, marks):
    word = sort[0]
    if word == "one":
        marks[member] += 1
    elif word in ("subset", "bag"):
        for name in member:
            marks[name] += 1
    elif word == "either":
        add_marks(many, sort[1 + member[0]], member[1], marks)
    elif word == "pair":
        add_marks(many, sort[1], member[0], marks)
        add_marks(many, sort[2], member[1], marks)
    elif word in ("list", "family", "heap"):
        for thing in member:
            add_marks(many, sort[2], thing, marks)
    elif word in ("rounds", "trees"):
        for row in member:
            for name in row:
                marks[name] += 1
    else:
        add_children(many, member[0], member[1], marks)


def add_children(many, root, ties, marks):
    far = [root]
    for name in far:
        for tie in ties:
            if name in tie and sum(tie) - name not in far:
                marks[name] += 1
                far.append(sum(tie) - name)


def stands(sort, member, name):
    """Whether a name stands in a member of a single sort."""
    if sort[0] == "one":
        return member == name
    if sort[0] == "subset":
        return name in member
    return stands(sort[1 + member[0]], member[1], name)


def replaced(sort, member, old, new):
    """Return a member of a single sort with a new name in the stead of an old one."""
    if sort[0] == "one":
        return new if member == old else member
    if sort[0] == "subset":
        return tuple(sorted(new if name == old else name for name in member))
    return (member[0], replaced(sort[1 + member[0]], member[1], old, new))


def with_one(things, old, new):
    """Return a row with one thing replaced, in ascending order."""
    changed = list(things)
    changed[changed.index(old)] = new
    return tuple(sorted(changed))


def places(many, sort, member, low, high):
    """Return the list of tuples (bracket, member if the bracket becomes the other one)."""
    word = sort[0]
    if word == "one":
        return {low: [("(", high)], high: [(")", low)]}.get(member, [])
    if word == "subset":
        if (low in member) == (high in member):
            return []
        return [("(", with_one(member, low, high))] if low in member else [(")", with_one(member, high, low))]
    if word == "bag":
        return ([(")", with_one(member, high, low)) for name in member if name == high]
                + [("(", with_one(member, low, high)) for name in member if name == low])
    if word == "either":
        inner = places(many, sort[1 + member[0]], member[1], low, high)
        return [(bracket, (member[0], changed)) for bracket, changed in inner]
    if word in ("pair", "list"):
        kinds = sort[1:] if word == "pair" else [sort[2]] * sort[1]
        found = []
        for at, kind in enumerate(kinds):
            for bracket, changed in places(many, kind, member[at], low, high):
                found.append((bracket, member[:at] + (changed,) + member[at + 1:]))
        return found
    if word in ("family", "heap"):
        return row_places(many, sort, member, low, high)
    if word == "rounds":
        return rounds_places(many, sort[1], member, low, high)
    return code_places(many, sort, member, low, high)


def row_places(many, sort, member, low, high):
    found = []
    for thing in all_members(many, sort[2]):
        if not stands(sort[2], thing, low) or stands(sort[2], thing, high):
            continue
        other = replaced(sort[2], thing, low, high)
        with_high = [(")", with_one(member, other, thing))] * 1 if other in member else []
        with_low = [("(", with_one(member, thing, other))] * 1 if thing in member else []
        if sort[0] == "heap":
            found += with_high * member.count(other) + with_low * member.count(thing)
        elif not (with_high and with_low):
            found += with_high + with_low
    return found


def rounds_places(many, meetings, member, low, high):
    pairs = list(combinations(range(many), 2))
    winners = {(pair, at): won[at] for pair, won in zip(pairs, member) for at in range(meetings)}

    def whole(changes):
        now = {**winners, **changes}
        return tuple(tuple(now[pair, at] for at in range(meetings)) for pair in pairs)

    def pair_of(one, other):
        return (min(one, other), max(one, other))

    found = []
    for at in range(meetings):
        if winners[(low, high), at] == low:
            found.append(("(", whole({((low, high), at): high})))
        else:
            found.append((")", whole({((low, high), at): low})))
    for name in range(many):
        if name in (low, high):
            continue
        for at in range(meetings):
            with_low, with_high = (pair_of(low, name), at), (pair_of(high, name), at)
            if winners[with_low] == low and winners[with_high] == name:
                found.append(("(", whole({with_low: name, with_high: high})))
            if winners[with_low] == name and winners[with_high] == high:
                found.append((")", whole({with_low: low, with_high: name})))
    return found


@lru_cache(maxsize=None)
def by_code(many, sort):
    """Return the dict of all trees, or rooted trees, by their codes."""
    code_of = tree_code if sort[0] == "trees" else rooted_code
    return {code_of(many, member): member for member in all_members(many, sort)}


def code_places(many, sort, member, low, high):
    code_of = tree_code if sort[0] == "trees" else rooted_code
    code = code_of(many, member)
    found = []
    for at, letter in enumerate(code):
        if letter in (low, high):
            changed = code[:at] + (low + high - letter,) + code[at + 1:]
            found.append(("(" if letter == low else ")", by_code(many, sort)[changed]))
    return found


def reading(many, sort, member, low, high):
    return "".join(bracket for bracket, _ in places(many, sort, member, low, high))


def free(text):
    """Return the pair of the lists of the indexes of the free ")" and "(", "()" taken away in turn."""
    left = list(enumerate(text))
    at = 0
    while at + 1 < len(left):
        if left[at][1] + left[at + 1][1] == "()":
            del left[at:at + 2]
            at = 0
        else:
            at += 1
    return ([at for at, sign in left if sign == ")"], [at for at, sign in left if sign == "("])


def transfer(many, sort, member, giver, taker):
    """Return the member to which a transfer leads, None if there is none."""
    found = places(many, sort, member, min(giver, taker), max(giver, taker))
    closing, opening = free("".join(bracket for bracket, _ in found))
    if giver < taker:
        return found[opening[0]][1] if opening else None
    return found[closing[-1]][1] if closing else None
