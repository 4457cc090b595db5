"""Tables: lines of rests, what is wanted of each line, and the answers that give it."""

from partshare.errors import BadTable
from partshare.rests import are_rests, check_prime, turned

MOST_LINES = 30
MOST_PLACES = 30


def are_lines(p, thing):
    """Whether the thing, whatever it is, is a list of lines that a table may have."""
    if not isinstance(thing, list) or len(thing) > MOST_LINES:
        return False
    if not all(isinstance(line, list) for line in thing):
        return False
    places = places_of(thing)
    return places <= MOST_PLACES and all(are_rests(p, line, places) for line in thing)


def places_of(lines):
    """How many places the lines have; without lines there are none."""
    if len(lines) == 0:
        return 0
    return len(lines[0])


def check_table(p, lines, wanted):
    """Refuse lines that are none of a table, then what is wanted where it does not fit them."""
    if not are_lines(p, lines):
        raise BadTable("this is no list of 0 to 30 lines, each of as many rests, 0 to 30")
    if not are_rests(p, wanted, len(lines)):
        raise BadTable("what is wanted is no list of a rest for each line")


def solved(p, lines, wanted):
    """A text and a list: the one answer, the least of many, or a mix of the lines that shows that there is none."""
    check_prime(p)
    check_table(p, lines, wanted)
    places = places_of(lines)
    rows, heads = cleared(p, widened(lines, wanted), places)
    for row in rows[len(heads):]:
        if row[places] != 0:
            return "none", row[places + 1:]
    # A place at which no row heads may be any rest, whatever stands ahead of it: so it is 0 in the least answer.
    answer = [0] * places
    for head, row in zip(heads, rows):
        answer[head] = row[places]
    if len(heads) < places:
        return "many", answer
    return "one", answer


def widened(lines, wanted):
    """New rows: each line, then what is wanted of it, then how often each line is in the row: itself once."""
    rows = []
    for at, line in enumerate(lines):
        mix = [0] * len(lines)
        mix[at] = 1
        rows.append(line + [wanted[at]] + mix)
    return rows


def cleared(p, rows, places):
    """Rows that say the same, and the places at which they head; those without a head have noughts in all places.

    The rows with heads come first. At its head a row has 1, all others have 0, and behind it the row has noughts.
    """
    heads = []
    # From the last place on: so what a row says of its head hangs on places ahead of it only.
    for place in reversed(range(places)):
        done = len(heads)
        at = first_with(rows, place, done)
        if at < len(rows):
            head = scaled(p, rows[at], turned(p, rows[at][place]))
            rest = rows[:at] + rows[at + 1:]
            rest = [less(p, row, row[place], head) for row in rest]
            rows = rest[:done] + [head] + rest[done:]
            heads.append(place)
    return rows, heads


def first_with(rows, place, start):
    """Where, from the start on, the first row stands that has no 0 at the place; behind all rows where none has."""
    at = start
    while at < len(rows) and rows[at][place] == 0:
        at += 1
    return at


def scaled(p, row, often):
    """The row taken so often."""
    return [thing * often % p for thing in row]


def less(p, row, often, other):
    """The row, less the other one taken so often."""
    return [(thing - often * off) % p for thing, off in zip(row, other)]
