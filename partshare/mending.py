"""Mending: the row on which shares lie but for some, and the places of those that are wrong."""

from partshare.errors import Unlike
from partshare.parting import check_enough, check_need, check_shares
from partshare.rests import check_prime
from partshare.rows import parted, worth
from partshare.tables import solved


def mended(p, need, shares):
    """The row of need rests on which all shares lie but half of what is over at most, and the places of the wrong."""
    check_prime(p)
    check_need(need)
    check_shares(p, shares)
    check_enough(need, shares)
    most = (len(shares) - need) // 2
    row = row_but_for(p, need, shares, most)
    wrong = sorted([place for place, thing in shares if worth(p, row, place) != thing])
    if len(wrong) > most:
        raise Unlike("there is no row by which the shares are mended")
    return row, wrong


def row_but_for(p, need, shares, most):
    """The row on which all shares lie but so many at most; where there is none, some other one or Unlike.

    Say a blank is a row with a worth of 0 at each wrong place, of most + 1 rests, the last of them 1. At every place
    the blanked row, which is the blank times the row, then has the share's worth times the blank's. All rests of both
    but that 1 are the answer of a table with a line for each share. Whatever answers it, the row is its blanked row
    parted by its blank: both sides have so few rests that they agree everywhere if they do at the right places.
    """
    length = need + most
    lines = []
    wanted = []
    for place, thing in shares:
        powers = powers_of(p, place, length)
        lines.append(powers + [(p - thing) * power % p for power in powers[:most]])
        wanted.append(thing * powers[most] % p)
    text, answer = solved(p, lines, wanted)
    if text == "none":
        raise Unlike("there is no row by which the shares are mended")
    row, _ = parted(p, answer[:length], answer[length:] + [1])
    return row


def powers_of(p, place, many):
    """So many rests: 1, and each one behind it the one ahead times the place."""
    told = []
    power = 1
    for _ in range(many):
        told.append(power)
        power = power * place % p
    return told
