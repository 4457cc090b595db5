"""Shares given anew, without the number being told."""

from partshare.errors import BadRow
from partshare.parting import check_places, check_shares
from partshare.rests import are_rests, check_prime, turned
from partshare.rows import check_row, worth


def weights(p, places):
    """A rest for each place: the worths there, each times its weight, sum up to the row's first thing."""
    check_prime(p)
    check_places(p, places)
    return [weight(p, places, place) for place in places]


def weight(p, places, place):
    """The weight of one of the places: the worth at 0 of the row whose worth is 1 there and 0 at the others."""
    over = 1
    under = 1
    for other in places:
        if other != place:
            over = over * other % p
            under = under * (other - place) % p
    return over * turned(p, under) % p


def gathered(p, places, parts):
    """The sum of the parts, each times the weight of its place."""
    check_prime(p)
    check_places(p, places)
    if not are_rests(p, parts, len(places)):
        raise BadRow("the parts are no list of a rest for each place")
    total = 0
    for part, often in zip(parts, weights(p, places)):
        total = (total + part * often) % p
    return total


def refreshed(p, shares, row):
    """The shares, in their order, with the row's worth at the same place added to each worth."""
    check_prime(p)
    check_shares(p, shares)
    check_row(p, row)
    if worth(p, row, 0) != 0:
        raise BadRow("a row by which shares are refreshed has a worth of 0 at 0")
    return [(place, (thing + worth(p, row, place)) % p) for place, thing in shares]
