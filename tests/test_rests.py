"""Promise [2]: primes and rests, and promise [1] for them."""

import unittest

from helpers import assert_refused, assert_whole, no_primes, no_rests, no_whole_numbers

from partshare.rests import is_prime, turned

SMALL_PRIMES = [3, 5, 7, 11, 13, 17, 19, 23, 29, 31, 97]


def sieved(limit):
    """For each number below the limit, whether it is prime, by crossing out multiples."""
    marks = [True] * limit
    marks[0] = marks[1] = False
    for number in range(2, limit):
        if marks[number]:
            for multiple in range(2 * number, limit, number):
                marks[multiple] = False
    return marks


class IsPrime(unittest.TestCase):
    def test_every_number_up_to_beyond_the_limit(self):
        marks = sieved(12000)
        for number in range(12000):
            expected = marks[number] and 3 <= number <= 9973
            self.assertIs(is_prime(number), expected, number)

    def test_primes(self):
        for number in (3, 5, 7, 11, 97, 101, 251, 257, 7919, 9949, 9967, 9973):
            self.assertIs(is_prime(number), True, number)

    def test_too_small(self):
        for number in (2, 1, 0, -1, -2, -3, -5, -9973, -10 ** 30):
            self.assertIs(is_prime(number), False, number)

    def test_products_and_squares(self):
        for number in (4, 6, 15, 21, 9, 25, 49, 97 * 97, 89 * 97, 97 * 101, 3 * 3323, 2 * 4973):
            self.assertIs(is_prime(number), False, number)

    def test_primes_beyond_the_limit(self):
        for number in (10007, 10009, 65537, 2 ** 31 - 1, 2 ** 61 - 1, 2 ** 4423 - 1):
            self.assertIs(is_prime(number), False)

    def test_no_whole_numbers(self):
        for thing in no_whole_numbers():
            self.assertIs(is_prime(thing), False, type(thing))

    def test_things_with_primes_in_them(self):
        for thing in ("3", "7", [3], (3,), {3: 3}, 3.0, 7.0, b"7"):
            self.assertIs(is_prime(thing), False, thing)

    def test_asked_again(self):
        for thing in (3, 9973, 4, True, None, 3):
            self.assertIs(is_prime(thing), is_prime(thing))


class Turned(unittest.TestCase):
    def test_every_rest_of_small_primes(self):
        for p in SMALL_PRIMES:
            for rest in range(1, p):
                told = turned(p, rest)
                assert_whole(self, [told])
                self.assertIn(told, range(p))
                self.assertEqual(told * rest % p, 1, (p, rest))
                self.assertEqual(turned(p, told), rest)
                self.assertEqual(turned(p, rest), told)

    def test_rests_of_the_greatest_prime(self):
        for rest in list(range(1, 200)) + [4986, 4987, 9000, 9970, 9971, 9972]:
            told = turned(9973, rest)
            self.assertIn(told, range(9973))
            self.assertEqual(told * rest % 9973, 1, rest)

    def test_worked_out_by_hand(self):
        self.assertEqual([turned(7, rest) for rest in range(1, 7)], [1, 4, 5, 2, 3, 6])
        self.assertEqual([turned(3, 1), turned(3, 2)], [1, 2])

    def test_nothing_is_turned_from_0(self):
        for p in SMALL_PRIMES + [9973]:
            assert_refused(self, "BadRest", turned, p, 0)

    def test_no_rest(self):
        for p in (3, 7, 97, 9973):
            for thing in no_rests(p):
                assert_refused(self, "BadRest", turned, p, thing)

    def test_no_prime(self):
        for thing in no_primes():
            assert_refused(self, "NoPrime", turned, thing, 1)

    def test_no_prime_ahead_of_no_rest(self):
        for thing in no_primes():
            for rest in (0, -1, 10 ** 9, True, "1", None, [1]):
                assert_refused(self, "NoPrime", turned, thing, rest)
        assert_refused(self, "NoPrime", turned, 9, 9)


class NothingIsChanged(unittest.TestCase):
    def test_what_is_handed_in(self):
        handed = [3, [5]]
        self.assertIs(is_prime(handed), False)
        assert_refused(self, "NoPrime", turned, handed, 1)
        assert_refused(self, "BadRest", turned, 7, handed)
        self.assertEqual(handed, [3, [5]])


if __name__ == "__main__":
    unittest.main()
