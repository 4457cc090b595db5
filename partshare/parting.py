"""Shares: a row's worths at places, what is told by them, and what they leave open."""

from partshare.errors import BadNeed, BadShares, NoWay, TooFew, Unlike
from partshare.rests import check_prime, check_rest, is_rest, is_whole, power, turned
from partshare.rows import added, check_row, times, worth

MOST_SHARES = 20
MOST_NEED = 20


def is_place(p, thing):
    """Whether the thing, whatever it is, is a place: a rest but 0."""
    return is_rest(p, thing) and thing != 0


def is_need(thing):
    """Whether the thing, whatever it is, is a need: a whole number from 1 to 20."""
    return is_whole(thing) and 1 <= thing <= MOST_NEED


def is_share(p, thing):
    """Whether the thing, whatever it is, is a share: a tuple of a place and a worth."""
    return isinstance(thing, tuple) and len(thing) == 2 and is_place(p, thing[0]) and is_rest(p, thing[1])


def are_places(p, thing):
    """Whether the thing, whatever it is, is a list of 0 to 20 places, all unlike."""
    if not isinstance(thing, list) or len(thing) > MOST_SHARES:
        return False
    return all(is_place(p, each) for each in thing) and len(set(thing)) == len(thing)


def are_shares(p, thing):
    """Whether the thing, whatever it is, is a list of 0 to 20 shares, their places all unlike."""
    if not isinstance(thing, list) or not all(is_share(p, each) for each in thing):
        return False
    return are_places(p, [share[0] for share in thing])


def check_places(p, thing):
    """Refuse what are no places."""
    if not are_places(p, thing):
        raise BadShares("this is no list of 0 to 20 places of the prime, all unlike")


def check_shares(p, thing):
    """Refuse what are no shares."""
    if not are_shares(p, thing):
        raise BadShares("this is no list of 0 to 20 shares of the prime, their places all unlike")


def check_need(thing):
    """Refuse what is no need."""
    if not is_need(thing):
        raise BadNeed("the need is no whole number from 1 to 20")


def check_enough(need, shares):
    """Refuse shares that are fewer than the need."""
    if len(shares) < need:
        raise TooFew("there are fewer shares than the need")


def shares_of(p, row, places):
    """The row's shares at the places, in the order of these."""
    check_prime(p)
    check_row(p, row)
    check_places(p, places)
    return [(place, worth(p, row, place)) for place in places]


def through(p, shares):
    """The row of as many rests as there are shares, on which all of them lie."""
    check_prime(p)
    check_shares(p, shares)
    row = []
    # Its worth is 0 at each place that is done: what is added of it leaves the row's worths there as they are.
    blank = [1]
    for place, thing in shares:
        short = thing - worth(p, row, place)
        often = short * turned(p, worth(p, blank, place)) % p
        row = added(p, row, times(p, blank, [often]))
        blank = times(p, blank, [p - place, 1])
    return row


def lies(p, row, shares):
    """Whether all the shares lie on the row."""
    return all(worth(p, row, place) == thing for place, thing in shares)


def number_of(p, need, shares):
    """The number that the shares tell."""
    check_prime(p)
    check_need(need)
    check_shares(p, shares)
    check_enough(need, shares)
    row = through(p, shares[:need])
    if not lies(p, row, shares[need:]):
        raise Unlike("the shares do not lie on one row of as many rests as the need")
    return row[0]


def ways(p, need, shares, number):
    """How many rows of need rests lie on all the shares and begin with the number."""
    check_prime(p)
    check_need(need)
    check_shares(p, shares)
    check_rest(p, number)
    if len(shares) < need:
        return product_of(p, need - 1 - len(shares))
    row = through(p, shares[:need])
    return 1 if row[0] == number and lies(p, row, shares[need:]) else 0


def product_of(factor, often):
    """The factor times itself, so often: the whole product, not its rest."""
    told = 1
    for _ in range(often):
        told = told * factor
    return told


def nth(p, need, shares, number, which):
    """The row of that number among those that `ways` counts, in rising order, numbered from 0 on."""
    many = ways(p, need, shares, number)
    if not is_whole(which) or which < 0 or which >= many:
        raise NoWay("this is no number of a row among those that lie on the shares and begin with the number")
    if len(shares) >= need:
        return through(p, shares[:need])
    # Whatever stands behind the number, the last rests, one for each share, can make up for it in just one way:
    # so the rests between take all there is, and rise with the rows as figures do.
    start = [number] + figures(p, which, need - 1 - len(shares))
    return start + made_up(p, start, shares)


def figures(p, number, many):
    """The number, written with so many figures, each a rest: the one that counts most first."""
    told = [0] * many
    left = number
    for at in reversed(range(many)):
        told[at] = left % p
        left = left // p
    return told


def made_up(p, start, shares):
    """The rests that follow the start in a row on which the shares lie, one for each share."""
    left = []
    for place, thing in shares:
        short = thing - worth(p, start, place)
        # What follows the start is taken times the place as often as the start has things.
        often = turned(p, power(p, place, len(start)))
        left.append((place, short * often % p))
    return through(p, left)
