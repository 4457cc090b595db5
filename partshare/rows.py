"""Rows of rests: their worths, sums, products and parts."""

from partshare.errors import BadRow, TooMany
from partshare.rests import check_prime, check_rest, is_rest, turned

MOST_THINGS = 60


def is_row(p, thing):
    """Whether the thing, whatever it is, is a row over the prime."""
    if not isinstance(thing, list) or len(thing) > MOST_THINGS:
        return False
    return all(is_rest(p, each) for each in thing)


def check_row(p, thing):
    """Refuse what is no row over the prime."""
    if not is_row(p, thing):
        raise BadRow("this is no list of 0 to 60 rests of the prime")


def worth(p, row, at):
    """The row's worth at a rest."""
    check_prime(p)
    check_row(p, row)
    check_rest(p, at)
    total = 0
    for thing in reversed(row):
        total = (total * at + thing) % p
    return total


def added(p, one, other):
    """The row that has in each place the sum of both, as long as the longer one."""
    check_prime(p)
    check_row(p, one)
    check_row(p, other)
    length = max(len(one), len(other))
    return [(left + right) % p for left, right in zip(filled(one, length), filled(other, length))]


def filled(row, length):
    """A new row: this one, with as many noughts at its end as make it that long; it is never made shorter."""
    return row + [0] * (length - len(row))


def times(p, one, other):
    """The row whose worth at each rest is the product of both rows' worths there."""
    check_prime(p)
    check_row(p, one)
    check_row(p, other)
    if len(one) == 0 or len(other) == 0:
        return []
    length = len(one) + len(other) - 1
    if length > MOST_THINGS:
        raise TooMany("the row would have more than 60 things")
    told = [0] * length
    for place, left in enumerate(one):
        for more, right in enumerate(other):
            told[place + more] = (told[place + more] + left * right) % p
    return told


def parted(p, row, other):
    """The quotient and the rest of the row, parted by the other one."""
    check_prime(p)
    check_row(p, row)
    check_row(p, other)
    if len(other) == 0 or other[-1] == 0:
        raise BadRow("a row that parts another one has a last thing, and it is not 0")
    short = len(other) - 1
    left = filled(row, short)
    quotient = [0] * (len(left) - short)
    back = turned(p, other[-1])
    for place in reversed(range(len(quotient))):
        often = left[place + short] * back % p
        quotient[place] = often
        for more, thing in enumerate(other):
            left[place + more] = (left[place + more] - often * thing) % p
    return quotient, left[:short]
