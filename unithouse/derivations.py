"""Derivations: steps that put, one after the other, alike sorts in the stead of parts of a sort.

A step is a tuple (path, word, back, put): the path of the part, the word of the rule, whether it
is done from right to left, and the sort that is put.
"""

from unithouse.errors import BadPaper, BadPath, BadRule, BadSort, BadStep, NothingBack, TooGreat
from unithouse.members import need_member
from unithouse.rules import corresponding, fits, other_side
from unithouse.sorts import is_sort, need_sort, part_at, put_at

MOST_STEPS = 40

# A member and what it is carried to may have other readings behind these.
ROUGH_WORDS = ("pair_swap", "square", "parity", "rounds_again")


def _parts_along(sort, path):
    """Return the list of the parts that a path leads through, the whole first and that at the path last."""
    found = [sort]
    for at in path:
        found.append(found[-1][at])
    return found


def _side_put(many, part, word, put, back):
    """Return the sort that a step puts in the stead of a part; BadRule if the rule does not let it."""
    # Below a list of 0 things a part by itself may be no sort.
    if not is_sort(many, part):
        raise BadRule(word)
    side = put
    if side is None:
        side = other_side(many, word, part, back=back)
    if not is_sort(many, side):
        raise BadRule(word)
    left, right = part, side
    if back:
        left, right = side, part
    if not fits(many, word, left, right):
        raise BadRule(word)
    return side


def _replaced(many, sort, path, member, rule):
    """Return a member with every member of the part at a path replaced; rule is (word, left side, back)."""
    if len(path) == 0:
        word, left, back = rule
        return corresponding(many, word, left, member, back)
    part = sort[path[0]]
    if sort[0] == "either" and member[0] != path[0] - 1:
        return member
    if sort[0] in ("either", "pair"):
        at = 1 if sort[0] == "either" else path[0] - 1
        return member[:at] + (_replaced(many, part, path[1:], member[at], rule),) + member[at + 1:]
    things = [_replaced(many, part, path[1:], thing, rule) for thing in member]
    if sort[0] == "list":
        return tuple(things)
    return tuple(sorted(things))


def _carried_by(many, sort, step, member):
    """Return the member to which a step leads a member of the sort ahead of it."""
    path, word, back, put = step
    left = put if back else _parts_along(sort, path)[-1]
    return _replaced(many, sort, path, member, (word, left, back))


def _carried_along(many, sorts, steps, member):
    """Return the member to which steps lead one, sorts being those ahead of each step."""
    led = member
    for sort, step in zip(sorts, steps):
        led = _carried_by(many, sort, step, led)
    return led


def _turned_steps(sorts, steps):
    """Return the list of the steps that lead back, sorts being those ahead of each step."""
    turned = [(path, word, not back, _parts_along(sort, path)[-1])
              for sort, (path, word, back, _) in zip(sorts, steps)]
    return turned[::-1]


def _is_smooth_step(sort, step):
    """Whether a step from a sort leaves the readings of all members."""
    path, word = step[:2]
    if word == "either_swap":
        return not any([part[0] in ("family", "heap") for part in _parts_along(sort, path)[:-1]])
    return word not in ROUGH_WORDS


def _has_step_form(many, value):
    """Whether a value is a tuple (path, word, back, put) with a sort to put."""
    if not isinstance(value, tuple) or len(value) != 4:
        return False
    return isinstance(value[2], bool) and is_sort(many, value[3])


def _takes(made, step):
    """Do a step of a derivation; return whether it is not refused."""
    if not _has_step_form(made.many, step):
        return False
    path, word, back, put = step
    try:
        made.step(path, word, put, back=back)
    except (BadPath, BadRule, BadSort, TooGreat):
        return False
    return True


def _with_steps(many, sort, steps):
    """Return the derivation with some steps; BadStep of the first thing that is none or is refused."""
    made = Derivation(many, sort)
    for place, step in enumerate(steps):
        if not _takes(made, step):
            raise BadStep(place)
    return made


class Derivation:
    """Steps that lead from a sort to an alike one."""

    def __init__(self, many, sort):
        need_sort(many, sort)
        self.many = many
        self.start = sort
        self.end = sort
        self._steps = ()
        # The sort ahead of each step, and the end.
        self._sorts = (sort,)

    def step(self, path, word, put=None, *, back=False):
        """Put a sort in the stead of the part of the end at the path, as the rule lets it."""
        if len(self._steps) == MOST_STEPS:
            raise TooGreat(MOST_STEPS)
        part = part_at(self.many, self.end, path)
        side = _side_put(self.many, part, word, put, back)
        end = put_at(self.many, self.end, path, side)
        self._steps = self._steps + ((path, word, bool(back), side),)
        self._sorts = self._sorts + (end,)
        self.end = end

    def undo(self):
        """Take the last step back."""
        if len(self._steps) == 0:
            raise NothingBack()
        self._steps = self._steps[:-1]
        self._sorts = self._sorts[:-1]
        self.end = self._sorts[-1]

    def steps(self):
        """Return the steps as a new list."""
        return list(self._steps)

    def carried(self, member):
        """Return the member of the end to which a member of the start is led."""
        need_member(self.many, self.start, member)
        return _carried_along(self.many, self._sorts, self._steps, member)

    def carried_back(self, member):
        """Return the member of the start that is led to a member of the end."""
        need_member(self.many, self.end, member)
        turned = _turned_steps(self._sorts, self._steps)
        return _carried_along(self.many, self._sorts[::-1], turned, member)

    def turned(self):
        """Return a new derivation from the end to the start."""
        return _with_steps(self.many, self.end, _turned_steps(self._sorts, self._steps))

    def joined(self, other):
        """Return a new derivation with the own steps and then those of another one."""
        if not isinstance(other, Derivation) or other.many != self.many or other.start != self.end:
            raise BadPaper("start")
        if len(self) + len(other) > MOST_STEPS:
            raise TooGreat(MOST_STEPS)
        return _with_steps(self.many, self.start, self.steps() + other.steps())

    def within(self, sort, path):
        """Return a new derivation that begins with a sort and has the same steps below a path."""
        if part_at(self.many, sort, path) != self.start:
            raise BadPath(path)
        return _with_steps(self.many, sort, [(path + own, word, back, put) for own, word, back, put in self._steps])

    def is_smooth(self):
        """Whether no step is of a kind that may change readings."""
        return all([_is_smooth_step(sort, step) for sort, step in zip(self._sorts, self._steps)])

    def __len__(self):
        return len(self._steps)

    def __iter__(self):
        return iter(self._steps)

    def __eq__(self, other):
        return (isinstance(other, Derivation) and self.many == other.many and self.start == other.start
                and self._steps == other._steps)


def derivation(many, sort, steps):
    """Return the derivation that begins with the sort and has these steps."""
    need_sort(many, sort)
    if not isinstance(steps, (list, tuple)):
        raise BadStep(0)
    return _with_steps(many, sort, steps)


def check_derivation(many, sort, other, steps):
    """Return None if the steps lead from the sort to the other one."""
    need_sort(many, sort)
    need_sort(many, other)
    if derivation(many, sort, steps).end != other:
        raise BadPaper("end")
