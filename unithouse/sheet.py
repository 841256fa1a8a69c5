"""Sheets: texts that give sorts, members, ways and derivations, and say something of them."""

from unithouse.errors import BadName, BadText, TooGreat
from unithouse.listing import listed
from unithouse.memberwords import member_words
from unithouse.members import content_in
from unithouse.readings import moved
from unithouse.sayings import saying_holds, take_entry, take_new_name, take_saying
from unithouse.sorts import LEAST_MANY, MOST_MANY, count_of, need_sort
from unithouse.sortwords import sort_words
from unithouse.words import Words, content_words, letter_of, words_of

MOST_LINES = 1000
MOST_ON_SHEET = 24

GIVING = ("sort", "member", "way", "derivation")
SAYING = ("say", "deny")


def _lines_of(text):
    """Return the list of the words, to take, of each line of a text that has any."""
    if not isinstance(text, str):
        raise BadText(0, 0)
    pieces = text.split("\n")
    lines = [Words(line, words_of(piece)) for line, piece in enumerate(pieces)]
    found = [words for words in lines if not words.is_done()]
    if len(found) == 0:
        raise BadText(0, 0)
    if len(pieces) > MOST_LINES:
        raise TooGreat(MOST_LINES)
    return found


def _take_many(words):
    """Take the words of the first line; return the number of names."""
    words.take(("names",))
    many = int(words.take([str(number) for number in range(LEAST_MANY, MOST_MANY + 1)]))
    words.need_end()
    return many


def _written(words):
    """Return the text of a line that was taken, each of its sorts told with the fewest words."""
    found = []
    place = 0
    for first, behind, sort in words.sorts_read:
        found.extend(words.told[place:first])
        found.extend(sort_words(sort))
        place = behind
    return " ".join(found + words.told[place:])


class Sheet:
    """What a text gives by names, and whether what it says holds."""

    def __init__(self, text):
        first, *others = _lines_of(text)
        self.many = _take_many(first)
        self._given = {}
        sayings = []
        for words in others:
            word = words.take(GIVING + SAYING)
            if word in SAYING:
                sayings.append((words.line, word == "say", take_saying(words, self.many, self._given)))
            else:
                name = take_new_name(words, self._given)
                self._given[name] = take_entry(words, self.many, self._given, word)
        self.rows = tuple([(line, saying_holds(self.many, saying) == said) for line, said, saying in sayings])
        self._lines = tuple([_written(words) for words in [first] + others])

    def all_true(self):
        """Whether all that is said holds, and all that is denied does not."""
        return all([truth for _, truth in self.rows])

    def named(self, name):
        """Return what is given by the name."""
        if not isinstance(name, str) or name not in self._given:
            raise BadName(name)
        return self._given[name]

    def __len__(self):
        return len(self.rows)

    def __iter__(self):
        return iter(self.rows)

    def __eq__(self, other):
        return isinstance(other, Sheet) and self._lines == other._lines

    def __str__(self):
        return "\n".join(self._lines)


def _lines_on_member(many, sort, found, index):
    """Return the list of the lines that say all of a member, told by its number among all that are found."""
    member = found[index]
    lines = [" ".join([f"say M{index} content"] + content_words(content_in(many, sort, member)))]
    for giver in range(many):
        for taker in range(many):
            if giver == taker:
                continue
            led = moved(many, sort, member, giver, taker)
            goal = "none" if led is None else f"M{found.index(led)}"
            lines.append(f"say M{index} transfer {letter_of(giver)} {letter_of(taker)} {goal}")
    return lines


def whole_sheet(many, sort):
    """Return the text of a sheet on all members of the sort."""
    need_sort(many, sort)
    count = count_of(many, sort)
    if count > MOST_ON_SHEET:
        raise TooGreat(MOST_ON_SHEET)
    found = listed(many, sort)
    lines = [f"names {many}", " ".join(["sort S is"] + sort_words(sort)), f"say S members {count}"]
    for index, member in enumerate(found):
        lines.append(" ".join([f"member M{index} of S is"] + member_words(many, sort, member)))
    for index in range(count):
        lines.extend(_lines_on_member(many, sort, found, index))
    return "\n".join(lines)
