"""What several tests share. It is no test itself."""

import fractions

from partshare import errors

ERROR_NAMES = [
    "NoPrime", "BadRest", "BadRow", "BadTable", "BadShares", "BadNeed", "TooMany",
    "TooFew", "Unlike", "NoWay", "NoShare", "Taken", "NoText",
]


class Touchy:
    """An object that can be neither compared, hashed, tested, measured nor shown."""

    def refuse(self, *_):
        raise AssertionError("nothing should be asked of this object")

    __eq__ = __ne__ = __lt__ = __le__ = __gt__ = __ge__ = refuse
    __hash__ = __bool__ = __len__ = __iter__ = __repr__ = __str__ = __index__ = __int__ = refuse


def no_whole_numbers():
    """Things of many kinds, none of which is a whole number; new ones each time."""
    return [
        True, False, None, "", "5", "five", b"5", [], [5], (), (5,), {}, {5: 5}, {5}, frozenset([5]),
        5.0, 0.0, float("nan"), float("inf"), 5j, fractions.Fraction(5), range(5), object(), Touchy(),
        int, len, iter([5]), (each for each in [5]),
    ]


def no_primes():
    """Things of many kinds, none of which is a prime."""
    numbers = [2, 1, 0, -1, -3, -7, 4, 9, 15, 49, 9409, 9972, 9974, 9975, 10007, 10 ** 5000, -10 ** 5000]
    return numbers + no_whole_numbers()


def no_rests(p):
    """Things of many kinds, none of which is a rest of the prime."""
    return [p, p + 1, -1, -p, 10 ** 5000, -10 ** 5000] + no_whole_numbers()


def no_rows(p):
    """Things of many kinds, none of which is a row over the prime."""
    told = [each for each in no_whole_numbers() if type(each) is not list]
    told += [0, 1, 5, (0, 1), "01", range(2), {0: 1}, [0] * 61, [1] * 61, [0] * 1000, [[]], [[0]], [0, [1]]]
    told += [[each] for each in no_rests(p)]
    told += [[0, 1, each] for each in no_rests(p)]
    told += [[each, 1, 0] for each in no_rests(p)]
    told += [[0] * 59 + [each] for each in (p, -1, True, "1", None)]
    endless = [0, 1]
    endless.append(endless)
    told.append(endless)
    return told


def assert_refused(case, name, function, *handed):
    """The call raises the error of this name: a ShareError and a ValueError, and none of the other classes."""
    kind = getattr(errors, name)
    try:
        function(*handed)
    except Exception as told:
        case.assertIs(type(told), kind)
        case.assertIsInstance(told, errors.ShareError)
        case.assertIsInstance(told, ValueError)
        for other in ERROR_NAMES:
            if other != name:
                case.assertNotIsInstance(told, getattr(errors, other))
        case.assertIsInstance(str(told), str)
    else:
        case.fail("nothing was refused; " + name + " should have been raised")


def assert_whole(case, things):
    """Each of the things is an int, and none is True or False."""
    for thing in things:
        case.assertIs(type(thing), int)
