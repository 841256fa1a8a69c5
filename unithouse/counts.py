"""How many members of a sort have each content, worked out from the sort alone.

`content_counts` and `even_content` trust what they are passed: they are for the other modules.
"""

from unithouse.errors import BadTotal, NoFree
from unithouse.members import MOST_OF_A_NAME, need_content, pairs_of_names, row_form
from unithouse.packed import ZEROS, added, multiplied, multiplied_often, one_mark, packed, taken, unpacked
from unithouse.rows import with_mark_moved
from unithouse.sorts import is_below, need_many, need_pair, need_sort


def _names_counted(many):
    """Return how often each packed content stands among the names."""
    return {one_mark(many, name): 1 for name in range(many)}


def _rounds_counted(many, meetings):
    """Return how often each packed content stands among the members of rounds."""
    product = {ZEROS: 1}
    for one, other in pairs_of_names(many):
        meeting = {one_mark(many, one): 1, one_mark(many, other): 1}
        product = multiplied(product, multiplied_often(meeting, meetings))
    return product


def _trees_counted(many):
    """Return how often each packed content stands among the trees."""
    # A name has one mark more than letters in the code.
    letters = multiplied_often(_names_counted(many), many - 2)
    return multiplied(letters, {packed((1,) * many): 1})


def _rows_counted(many, sort):
    """Return how often each packed content stands in a sort whose members are rows."""
    word, size, part = row_form(sort)
    if size == 0:
        # The part may pass the bounds on marks and width there.
        return {ZEROS: 1}
    counted = _counted(many, part)
    if word == "list":
        return multiplied_often(counted, size)
    return taken(counted, size, word == "heap")


def _counted(many, sort):
    """Return how often each packed content stands among the members of a sort."""
    word = sort[0]
    if word == "none":
        return {}
    if word == "one":
        return _names_counted(many)
    if word == "either":
        return added(_counted(many, sort[1]), _counted(many, sort[2]))
    if word == "pair":
        return multiplied(_counted(many, sort[1]), _counted(many, sort[2]))
    if word == "rounds":
        return _rounds_counted(many, sort[1])
    if word == "trees":
        return _trees_counted(many)
    if word == "rooted":
        return multiplied_often(_names_counted(many), many - 1)
    return _rows_counted(many, sort)


def content_counts(many, sort):
    """Return a dict: for each content of a member, ascending, how many members have it."""
    counted = _counted(many, sort)
    return {unpacked(many, number): counted[number] for number in sorted(list(counted))}


def counts(many, sort):
    """Return the ascending list of tuples (content, count) of all contents that members have."""
    need_sort(many, sort)
    return list(content_counts(many, sort).items())


def count_at(many, sort, content):
    """Return how many members have the content."""
    need_sort(many, sort)
    need_content(many, content)
    return content_counts(many, sort).get(content, 0)


def totals(many, sort):
    """Return the ascending list of tuples (total, number): how many members have contents of each sum."""
    need_sort(many, sort)
    numbers = {}
    for content, count in content_counts(many, sort).items():
        total = sum(content)
        numbers[total] = numbers.get(total, 0) + count
    return [(total, numbers[total]) for total in sorted(list(numbers))]


def need_content_and_pair(many, sort, content, one, other):
    """Raise what a sort, a content and two names are refused with; return the lesser and the greater name."""
    need_sort(many, sort)
    need_content(many, content)
    return need_pair(many, one, other)


def splits(many, sort, content, first, second):
    """Return the list of the counts of the content with the marks of the two names split in each way."""
    need_content_and_pair(many, sort, content, first, second)
    counted = content_counts(many, sort)
    both = content[first] + content[second]
    found = []
    for marks in range(both + 1):
        split = list(content)
        split[first] = marks
        split[second] = both - marks
        found.append(counted.get(tuple(split), 0))
    return found


def growth(many, sort, content, giver, taker):
    """Return the tuple (here, ends, heads, behind) of a content and the one behind a transfer."""
    need_content_and_pair(many, sort, content, giver, taker)
    if content[giver] == 0:
        raise NoFree(giver, taker)
    counted = content_counts(many, sort)
    here = counted.get(content, 0)
    behind = counted.get(with_mark_moved(content, giver, taker), 0)
    # Transfers match the others one to one, and the members that are left are all on one side.
    if content[giver] > content[taker]:
        return (here, 0, behind - here, behind)
    return (here, here - behind, 0, behind)


def even_content(many, total):
    """Return the content of a sum with numbers that never ascend and differ by 1 at most."""
    each, rest = divmod(total, many)
    return (each + 1,) * rest + (each,) * (many - rest)


def _need_total(many, total):
    """Raise BadTotal of what is the sum of no content."""
    if not is_below(total, MOST_OF_A_NAME * many + 1):
        raise BadTotal(total)


def most_even(many, total):
    """Return the most even content of the sum, the greatest numbers first."""
    need_many(many)
    _need_total(many, total)
    return even_content(many, total)


def greatest_count(many, sort, total):
    """Return the greatest count of a content of the sum."""
    need_sort(many, sort)
    _need_total(many, total)
    # No content of the sum has a greater count than the most even one.
    return content_counts(many, sort).get(even_content(many, total), 0)
