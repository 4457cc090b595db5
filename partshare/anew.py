"""Shares given anew, without the number being told."""

from partshare.errors import BadRow
from partshare.parting import MOST_NEED, check_places, check_shares
from partshare.rests import are_rests, check_prime, turned
from partshare.rows import check_row, worth


def weights(p, places):
    """A rest for each place: the worths there, each times its weight, sum up to the row's first thing."""
    check_prime(p)
    check_places(p, places)
    return [weight(p, places, place) for place in places]


def weight(p, places, place):
    """The weight of one of the places: the worth at 0 of the row whose worth is 1 there and 0 at the others."""
    over = 1
    under = 1
    for other in places:
        if other != place:
            over = over * other % p
            under = under * (other - place) % p
    return over * turned(p, under) % p


def gathered(p, places, parts):
    """The sum of the parts, each times the weight of its place."""
    check_prime(p)
    check_places(p, places)
    if not are_rests(p, parts, len(places)):
        raise BadRow("the parts are no list of a rest for each place")
    total = 0
    for part, often in zip(parts, weights(p, places)):
        total = (total + part * often) % p
    return total


def refreshed(p, shares, row):
    """The shares, in their order, with the row's worth at the same place added to each worth."""
    check_prime(p)
    check_shares(p, shares)
    check_row(p, row)
    if worth(p, row, 0) != 0:
        raise BadRow("a row by which shares are refreshed has a worth of 0 at 0")
    return [(place, (thing + worth(p, row, place)) % p) for place, thing in shares]


def are_holders_rows(p, shares, thing):
    """Whether the thing, whatever it is, is a list of a row for each share, beginning with its worth, all as long."""
    if not isinstance(thing, list) or len(thing) != len(shares):
        return False
    if not all(isinstance(row, list) and 1 <= len(row) <= MOST_NEED for row in thing):
        return False
    if not all(are_rests(p, row, len(thing[0])) for row in thing):
        return False
    return all(row[0] == share[1] for row, share in zip(thing, shares))


def check_holders_rows(p, shares, thing):
    """Refuse what are no rows by which the holders of the shares deal them anew."""
    if not are_holders_rows(p, shares, thing):
        raise BadRow("this is no list of a row for each share, all as long, 1 to 20, beginning with its worth")


def dealt(p, places, rows, new_places):
    """The shares at the new places, gathered there of the rows: one for each of the old places."""
    return [(place, gathered(p, places, [worth(p, row, place) for row in rows])) for place in new_places]
