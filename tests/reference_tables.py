"""Tables along and across, worked out in the plainest way, for the tests to compare with."""

from tests import reference


def some_tables(names, columns, sign, most, step=1):
    """Return the list of the tables of a shape, of items up to the most that sum to at most 12, each so many-th."""
    base, count = 2 if sign else most + 1, names * columns
    found = []
    for number in range(0, base ** count, step):
        flat = [number // base ** at % base for at in range(count)]
        if sum(flat) <= 12:
            found.append(tuple(tuple(flat[row * columns:(row + 1) * columns]) for row in range(names)))
    return found


# Tables of all shapes, of some all there are.
SHAPES = (
    (2, 2, True, 1, 1), (2, 3, True, 1, 1), (3, 2, True, 1, 3), (3, 3, True, 1, 3), (2, 5, True, 1, 37),
    (5, 2, True, 1, 41), (4, 3, True, 1, 97), (3, 4, True, 1, 101), (4, 4, True, 1, 2797), (5, 5, True, 1, 2523987),
    (2, 2, False, 3, 3), (2, 3, False, 2, 11), (3, 2, False, 2, 13), (3, 3, False, 2, 397), (2, 5, False, 2, 2677),
    (5, 2, False, 2, 2701), (4, 4, False, 1, 4009), (5, 5, False, 1, 2723987), (2, 2, False, 6, 61),
)


def all_samples():
    """Return the list of tuples (table, sign) of all sample tables."""
    return [(table, shape[2]) for shape in SHAPES for table in some_tables(*shape)]


def sort_and_member(table, sign):
    """Return the sort of the columns of a table and the member for which it stands."""
    columns = list(zip(*table))
    word = "subset" if sign else "bag"
    sort = (word, sum(columns[-1]))
    member = told(columns[-1])
    for column in reversed(columns[:-1]):
        sort = ("pair", (word, sum(column)), sort)
        member = (told(column), member)
    return sort, member


def told(column):
    """Return the tuple of the names of a column, each as often as its item says."""
    return tuple(name for name, item in enumerate(column) for _ in range(item))


def from_member(names, columns, member):
    """Return the table that stands for a member."""
    parts, rest = [], member
    for _ in range(columns - 1):
        first, rest = rest
        parts.append(first)
    parts.append(rest)
    return tuple(tuple(part.count(name) for part in parts) for name in range(names))


def along(table, low, high, sign):
    """Return the list of tuples (bracket, table if the bracket becomes the other one), for two names."""
    sort, member = sort_and_member(table, sign)
    return [(bracket, from_member(len(table), len(table[0]), changed))
            for bracket, changed in reference.places(len(table), sort, member, low, high)]


def moved_item(table, name, column, other):
    """Return a table in which one of an item stands in another column."""
    rows = [list(row) for row in table]
    rows[name][column] -= 1
    rows[name][other] += 1
    return tuple(tuple(row) for row in rows)


def across(table, low, high, sign):
    """Return the same for two columns, as point 65 tells it."""
    found = []
    for name in (reversed(range(len(table))) if sign else range(len(table))):
        row = table[name]
        to_low = [(")", moved_item(table, name, high, low))]
        to_high = [("(", moved_item(table, name, low, high))]
        if not sign:
            found += to_low * row[high] + to_high * row[low]
        elif row[low] > row[high]:
            found += to_high
        elif row[low] < row[high]:
            found += to_low
    return found


def text(places):
    return "".join(bracket for bracket, _ in places)


def transfer(places, giver, taker):
    """Return the table to which a transfer leads, None if there is none; places are those of both."""
    closing, opening = reference.free(text(places))
    if giver < taker:
        return places[opening[0]][1] if opening else None
    return places[closing[-1]][1] if closing else None


def string(places_of, table, low, high, sign):
    """Return the list of the tables of a string, from the head on, and the place of the table in it."""
    found = [table]
    here = transfer(places_of(table, low, high, sign), high, low)
    while here is not None:
        found.insert(0, here)
        here = transfer(places_of(here, low, high, sign), high, low)
    place = len(found) - 1
    here = transfer(places_of(table, low, high, sign), low, high)
    while here is not None:
        found.append(here)
        here = transfer(places_of(here, low, high, sign), low, high)
    return found, place


def root(places_of, table, sign, last_first):
    """Return where transfers from LOW + 1 to LOW end, the greatest LOW first or the least one."""
    size = len(table) if places_of is along else len(table[0])
    here = table
    going = True
    while going:
        going = False
        lows = range(size - 1)
        for low in (reversed(lows) if last_first else lows):
            led = transfer(places_of(here, low, low + 1, sign), low + 1, low)
            if led is not None:
                here, going = led, True
                break
    return here
