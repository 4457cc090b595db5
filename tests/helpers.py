"""What several tests share. It is no test itself."""

import copy
import fractions
import itertools

from partshare import errors

ERROR_NAMES = [
    "NoPrime", "BadRest", "BadRow", "BadTable", "BadShares", "BadNeed", "TooMany",
    "TooFew", "Unlike", "NoWay", "NoShare", "Taken", "NoText",
]


class Touchy:
    """An object that can be neither compared, hashed, tested, measured nor shown."""

    def refuse(self, *_):
        raise AssertionError("nothing should be asked of this object")

    __eq__ = __ne__ = __lt__ = __le__ = __gt__ = __ge__ = refuse
    __hash__ = __bool__ = __len__ = __iter__ = __repr__ = __str__ = __index__ = __int__ = refuse


def no_whole_numbers():
    """Things of many kinds, none of which is a whole number; new ones each time."""
    return [
        True, False, None, "", "5", "five", b"5", [], [5], (), (5,), {}, {5: 5}, {5}, frozenset([5]),
        5.0, 0.0, float("nan"), float("inf"), 5j, fractions.Fraction(5), range(5), object(), Touchy(),
        int, len, iter([5]), (each for each in [5]),
    ]


def no_primes():
    """Things of many kinds, none of which is a prime."""
    numbers = [2, 1, 0, -1, -3, -7, 4, 9, 15, 49, 9409, 9972, 9974, 9975, 10007, 10 ** 5000, -10 ** 5000]
    return numbers + no_whole_numbers()


def no_rests(p):
    """Things of many kinds, none of which is a rest of the prime."""
    return [p, p + 1, -1, -p, 10 ** 5000, -10 ** 5000] + no_whole_numbers()


def no_lists():
    """Things of many kinds, none of which is a list."""
    return [each for each in no_whole_numbers() if type(each) is not list]


def no_needs():
    """Things of many kinds, none of which is a need."""
    return [0, 21, 22, -1, -20, 10 ** 5000, -10 ** 5000] + no_whole_numbers()


def no_places(p):
    """Things of many kinds, none of which is a list of places of the prime, all unlike."""
    told = no_lists() + [1, (1,), (1, 2), "12", range(1, 3), {1: 1}, {1, 2}, [[]], [[1]], [1, [2]], [(1, 1)]]
    told += [[each] for each in [0] + no_rests(p)]
    told += [[1, each] for each in [0] + no_rests(p)]
    told += [[each, 1, 2] for each in [0] + no_rests(p)]
    told += [[1, 1], [2, 1, 2], [1, 2, 2], [p - 1, 1, p - 1]]
    told += [list(range(1, 22)), list(range(1, 10000)), [1] * 21]
    endless = [1]
    endless.append(endless)
    told.append(endless)
    return told


def no_shares(p):
    """Things of many kinds, none of which are shares of the prime."""
    told = no_lists() + [(1, 1), ((1, 1),), {1: 1}, {(1, 1)}, iter([(1, 1)])]
    each_wrong = no_whole_numbers() + [1, "11", b"11", range(1, 3), [1, 1], {1: 1, 2: 2}]
    each_wrong += [(1,), (1, 1, 1), ((1, 1),), ((1, 1), (2, 2)), ([1], 1), (1, [1])]
    each_wrong += [(each, 1) for each in [0] + no_rests(p)]
    each_wrong += [(1, each) for each in no_rests(p)]
    told += [[each] for each in each_wrong]
    told += [[(2, 0), each] for each in each_wrong]
    told += [[each, (2, 0)] for each in each_wrong]
    told += [[(1, 1), (1, 1)], [(1, 1), (1, 2)], [(1, 0), (2, 0), (1, 0)], [(2, 1), (1, 1), (1, 1)]]
    told += [[(place, 0) for place in range(1, 22)], [(1, 0)] * 21]
    endless = [(1, 1)]
    endless.append(endless)
    told.append(endless)
    return told


def no_rows(p):
    """Things of many kinds, none of which is a row over the prime."""
    told = no_lists()
    told += [0, 1, 5, (0, 1), "01", range(2), {0: 1}, [0] * 61, [1] * 61, [0] * 1000, [[]], [[0]], [0, [1]]]
    told += [[each] for each in no_rests(p)]
    told += [[0, 1, each] for each in no_rests(p)]
    told += [[each, 1, 0] for each in no_rests(p)]
    told += [[0] * 59 + [each] for each in (p, -1, True, "1", None)]
    endless = [0, 1]
    endless.append(endless)
    told.append(endless)
    return told


def assert_refused(case, name, function, *handed):
    """The call raises the error of this name: a ShareError and a ValueError, and none of the other classes."""
    kind = getattr(errors, name)
    try:
        function(*handed)
    except Exception as told:
        case.assertIs(type(told), kind)
        case.assertIsInstance(told, errors.ShareError)
        case.assertIsInstance(told, ValueError)
        for other in ERROR_NAMES:
            if other != name:
                case.assertNotIsInstance(told, getattr(errors, other))
        case.assertIsInstance(str(told), str)
    else:
        case.fail("nothing was refused; " + name + " should have been raised")


def told_by(function, *handed):
    """What the call tells, or the name of the error by which it refuses."""
    try:
        return "told", function(*handed)
    except errors.ShareError as refused:
        return "refused", type(refused).__name__


def assert_no_prime_first(case, function, *good):
    """What is no prime is refused ahead of all; good is what is handed in behind it, and does."""
    for thing in no_primes():
        assert_refused(case, "NoPrime", function, thing, *good)
        assert_refused(case, "NoPrime", function, thing, *[None for _ in good])
        assert_refused(case, "NoPrime", function, thing, *[[thing] for _ in good])


def assert_whole(case, things):
    """Each of the things is an int, and none is True or False."""
    for thing in things:
        case.assertIs(type(thing), int)


def assert_rests(case, p, told, length):
    """What is told is a list of so many rests."""
    case.assertIs(type(told), list)
    assert_whole(case, told)
    case.assertTrue(all(0 <= each < p for each in told), told)
    case.assertEqual(len(told), length)


def lists_in(thing):
    """Every list in the thing, at whatever depth, itself too."""
    found = [thing] if isinstance(thing, list) else []
    if isinstance(thing, (list, tuple)):
        for each in thing:
            found += lists_in(each)
    return found


def spoil(thing):
    """Change every list in the thing."""
    for each in lists_in(thing):
        each.append("changed")
        each[0] = "changed"


def assert_stands_alone(case, function, *handed):
    """Promise [1]: what is handed in is not changed, and what is told is the asker's own.

    Handed in are, in their order, what the function takes; it may refuse none of it.
    """
    kept = copy.deepcopy(handed)
    told = function(*handed)
    case.assertEqual(handed, kept)
    answer = copy.deepcopy(told)
    again = function(*handed)
    case.assertEqual(again, answer)
    others = lists_in(handed) + lists_in(again)
    for each in lists_in(told):
        case.assertFalse([other for other in others if other is each])
    spoil(told)
    case.assertEqual((handed, again), (kept, answer))
    case.assertEqual(function(*handed), answer)
    spoil(handed)
    case.assertEqual(again, answer)
    case.assertEqual(function(*kept), answer)


def assert_told_again(case, questions):
    """Promise [1]: asked again, with the other questions in between, each question is told the same.

    A question is a tuple: a function, then what it is handed.
    """
    first = [function(*handed) for function, *handed in questions]
    told = [function(*handed) for function, *handed in reversed(questions)]
    case.assertEqual(told[::-1], first)
    spoil(told)
    case.assertEqual([function(*handed) for function, *handed in questions], first)


def plain_worth(p, row, at):
    """The worth by the words of the document: each thing times at as often as it has things ahead of it."""
    total = 0
    for place, thing in enumerate(row):
        for _ in range(place):
            thing = thing * at
        total = total + thing
    return total % p


def rows_of(p, length):
    """Every row of this length, in rising order."""
    return [list(each) for each in itertools.product(range(p), repeat=length)]


def some_row(chance, p, length):
    """A row of this length, with noughts more often than not by chance alone."""
    return [chance.choice([0, chance.randrange(p), chance.randrange(p), p - 1]) for _ in range(length)]


def some_places(chance, p, many):
    """So many places of the prime, all unlike, in no order."""
    return chance.sample(range(1, p), many)


def plain_shares(p, row, places):
    """The row's shares at the places, by the words of the document."""
    return [(place, plain_worth(p, row, place)) for place in places]


def with_wrong(chance, p, shares, wrong_places):
    """The shares, with another worth at each of the wrong places."""
    return [
        (place, (thing + chance.randrange(1, p)) % p if place in wrong_places else thing) for place, thing in shares
    ]
