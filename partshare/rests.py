"""Primes, and the rests of a prime."""

from partshare.errors import BadRest, NoPrime

LEAST_PRIME = 3
MOST_PRIME = 9973


def is_whole(thing):
    """Whether the thing is a whole number: Python counts True and False as ints, but they are none here."""
    return isinstance(thing, int) and not isinstance(thing, bool)


def is_prime(thing):
    """Whether the thing, whatever it is, is a prime from 3 to 9973."""
    if not is_whole(thing) or thing < LEAST_PRIME or thing > MOST_PRIME:
        return False
    divisor = 2
    while divisor * divisor <= thing:
        if thing % divisor == 0:
            return False
        divisor += 1
    return True


def is_rest(p, thing):
    """Whether the thing, whatever it is, is a rest of the prime."""
    return is_whole(thing) and 0 <= thing < p


def are_rests(p, thing, many):
    """Whether the thing, whatever it is, is a list of so many rests of the prime."""
    if not isinstance(thing, list) or len(thing) != many:
        return False
    return all(is_rest(p, each) for each in thing)


def check_prime(p):
    """Refuse what is no prime. No message shows what was handed in: showing it may itself fail."""
    if not is_prime(p):
        raise NoPrime("the prime is no prime from 3 to 9973")


def check_rest(p, thing):
    """Refuse what is no rest of the prime."""
    if not is_rest(p, thing):
        raise BadRest("this is no rest of the prime")


def turned(p, rest):
    """The rest whose product with this one is 1."""
    check_prime(p)
    check_rest(p, rest)
    if rest == 0:
        raise BadRest("no rest is turned from 0")
    # Any rest but 0, taken p - 1 times as a factor, comes to 1: so taken p - 2 times it is the one that is turned.
    return power(p, rest, p - 2)


def power(p, rest, often):
    """The rest taken so often as a factor."""
    told = 1
    square = rest
    while often > 0:
        if often % 2 == 1:
            told = told * square % p
        square = square * square % p
        often = often // 2
    return told
