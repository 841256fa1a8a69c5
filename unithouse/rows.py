"""Rows of one number for each name, as contents are: what becomes of them, and which is evener.

These functions trust what they are passed: they are for the modules of the package.
"""


def with_mark_moved(row, giver, taker):
    """Return a row with one mark less of the giver and one more of the taker."""
    changed = list(row)
    changed[giver] -= 1
    changed[taker] += 1
    return tuple(changed)


def with_names_exchanged(row, one, other):
    """Return a row in which the numbers of two names have changed places."""
    changed = list(row)
    changed[one], changed[other] = changed[other], changed[one]
    return tuple(changed)


def tops_of(row):
    """Return the tuple of the sums of the K greatest numbers of a row, for K from 0 on."""
    sums = [0]
    for number in sorted(row, reverse=True):
        sums.append(sums[-1] + number)
    return tuple(sums)


def evener(row, other):
    """Whether a row is evener than another one."""
    own = tops_of(row)
    others = tops_of(other)
    return own[-1] == others[-1] and all([top <= bound for top, bound in zip(own, others)])
