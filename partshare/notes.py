"""Notes: shares written as a text, and read of it."""

from partshare.errors import NoText
from partshare.parting import are_shares, check_need, check_shares, is_need
from partshare.rests import check_prime, is_prime

MOST_FIGURES = 4


def shown(p, need, shares):
    """The text in which the prime, the need and the shares are written."""
    check_prime(p)
    check_need(need)
    check_shares(p, shares)
    return f"{p} {need}:" + "".join(f" {place}-{thing}" for place, thing in shares)


def read(text):
    """The prime, the need and the shares that are written in the text."""
    if not isinstance(text, str):
        raise NoText("this is no text")
    words = text.split(" ")
    if len(words) < 2 or not words[1].endswith(":"):
        raise NoText("the text does not begin with a prime, a blank, a need and a colon")
    p = number_in(words[0])
    need = number_in(words[1][:-1])
    shares = [share_in(word) for word in words[2:]]
    if not is_prime(p) or not is_need(need) or not are_shares(p, shares):
        raise NoText("the text does not tell a prime, a need and shares of that prime")
    return p, need, shares


def share_in(word):
    """The place and the worth that the word writes, each None where it writes none."""
    place, _, thing = word.partition("-")
    return number_in(place), number_in(thing)


def number_in(word):
    """The whole number that the word writes, None where it writes none.

    None of more figures than the greatest prime has can be of use, and Python refuses to read very many.
    """
    if len(word) > MOST_FIGURES or not word.isascii() or not word.isdigit():
        return None
    if word[0] == "0" and len(word) > 1:
        return None
    return int(word)
