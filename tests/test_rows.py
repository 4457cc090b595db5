"""Promises [3] and [4]: rows, and promise [1] for them."""

import copy
import random
import unittest

from helpers import (
    assert_refused, assert_rests, assert_whole, no_primes, no_rests, no_rows, plain_worth, rows_of, some_row,
)

from partshare.rows import added, parted, times, worth


def plain_times(p, one, other):
    """The product by the words of the document, place by place."""
    if one == [] or other == []:
        return []
    told = []
    for place in range(len(one) + len(other) - 1):
        pairs = [(k, place - k) for k in range(len(one)) if 0 <= place - k < len(other)]
        told.append(sum(one[k] * other[m] for k, m in pairs) % p)
    return told


def rows_up_to(p, length):
    """Every row of at most this length."""
    return [row for many in range(length + 1) for row in rows_of(p, many)]


def without_end_noughts(row):
    """The row less the noughts at its end."""
    row = list(row)
    while row and row[-1] == 0:
        row.pop()
    return row


class RowCase(unittest.TestCase):
    def assert_row(self, p, row, length):
        assert_rests(self, p, row, length)

    def assert_two_rows_refused(self, function, good):
        """What is no row is refused first or second; good is a row that does in both places."""
        p = 7
        for thing in no_rows(p):
            assert_refused(self, "BadRow", function, p, thing, good)
            assert_refused(self, "BadRow", function, p, good, thing)
        assert_refused(self, "BadRow", function, p, None, None)
        assert_refused(self, "BadRow", function, 3, [3], [1])
        assert_refused(self, "BadRow", function, 3, [1], [0, 3, 1])
        assert_refused(self, "BadRow", function, 9973, [9973], [1])
        assert_refused(self, "BadRow", function, 9973, [1], [9973, 1])

    def assert_no_prime_first(self, function, good):
        """What is no prime is refused ahead of all; good are handed in behind it."""
        for thing in no_primes():
            assert_refused(self, "NoPrime", function, thing, *good)
            assert_refused(self, "NoPrime", function, thing, None, None)
            assert_refused(self, "NoPrime", function, thing, [thing], [thing])
            assert_refused(self, "NoPrime", function, thing, [1] * 61, [0])

    def assert_nothing_is_shared(self, function, p, one, other, rows_told):
        """For functions of two rows: neither is changed, and what is told stands alone."""
        first, second = copy.deepcopy(one), copy.deepcopy(other)
        told = function(p, one, other)
        self.assertEqual((one, other), (first, second))
        kept = copy.deepcopy(told)
        for row in rows_told(told):
            self.assertIsNot(row, one)
            self.assertIsNot(row, other)
        again = function(p, one, other)
        self.assertEqual(again, kept)
        for row, new in zip(rows_told(told), rows_told(again)):
            self.assertIsNot(row, new)
        for row in rows_told(told):
            row.append("changed")
            row[0] = "changed"
        self.assertEqual(again, kept)
        self.assertEqual((one, other), (first, second))
        self.assertEqual(function(p, one, other), kept)
        one.insert(0, 1)
        other[:] = [2, 2, 2, 2, 2]
        self.assertEqual(again, kept)
        self.assertEqual(function(p, first, second), kept)


class Worth(RowCase):
    def test_worked_out_by_hand(self):
        self.assertEqual(worth(7, [1, 2, 3], 2), 3)
        self.assertEqual(worth(97, [5, 6, 7], 10), (5 + 60 + 700) % 97)
        self.assertEqual(worth(9973, [9972, 9972], 9972), 0)

    def test_no_things(self):
        for p in (3, 7, 9973):
            for at in (0, 1, p - 1):
                self.assertEqual(worth(p, [], at), 0)

    def test_one_thing(self):
        for thing in range(7):
            for at in range(7):
                self.assertEqual(worth(7, [thing], at), thing)

    def test_at_0_it_is_the_first_thing(self):
        for row in ([4], [4, 1], [0, 1, 2], [6] * 60):
            self.assertEqual(worth(7, row, 0), row[0])

    def test_every_short_row(self):
        for row in rows_up_to(3, 4):
            for at in range(3):
                self.assertEqual(worth(3, row, at), plain_worth(3, row, at), (row, at))

    def test_rows_of_60_rests(self):
        chance = random.Random(1)
        for p in (3, 101, 9973):
            for row in ([p - 1] * 60, [0] * 59 + [1], [1] + [0] * 59, [0] * 60, some_row(chance, p, 60)):
                for at in (0, 1, 2, p - 1, chance.randrange(p)):
                    told = worth(p, row, at)
                    assert_whole(self, [told])
                    self.assertEqual(told, plain_worth(p, row, at))
                    self.assertEqual(worth(p, row, at), told)

    def test_noughts(self):
        self.assertEqual(worth(7, [0, 0, 0], 5), 0)
        self.assertEqual(worth(7, [0, 1, 0], 5), 5)
        self.assertEqual(worth(7, [0, 0, 1], 5), 4)
        self.assertEqual(worth(7, [3, 0, 1, 0, 0], 5), 0)

    def test_no_row(self):
        for thing in no_rows(7):
            assert_refused(self, "BadRow", worth, 7, thing, 1)
        assert_refused(self, "BadRow", worth, 3, [0, 3], 1)

    def test_no_rest(self):
        for p in (3, 7, 9973):
            for thing in no_rests(p):
                assert_refused(self, "BadRest", worth, p, [], thing)
                assert_refused(self, "BadRest", worth, p, [1, 2], thing)

    def test_no_row_ahead_of_no_rest(self):
        for thing in no_rests(7):
            assert_refused(self, "BadRow", worth, 7, [7], thing)
            assert_refused(self, "BadRow", worth, 7, (1, 2), thing)
            assert_refused(self, "BadRow", worth, 7, [0] * 61, thing)

    def test_no_prime_ahead_of_all(self):
        self.assert_no_prime_first(worth, ([1, 2], 0))

    def test_nothing_is_changed(self):
        row = [1, 2, 3]
        told = worth(7, row, 2)
        self.assertEqual(row, [1, 2, 3])
        row[0] = 5
        self.assertEqual(told, 3)
        self.assertEqual(worth(7, row, 2), 0)
        self.assertEqual(worth(7, [1, 2, 3], 2), 3)


class Added(RowCase):
    def test_worked_out_by_hand(self):
        self.assertEqual(added(7, [1, 2, 3], [6, 6, 6]), [0, 1, 2])
        self.assertEqual(added(7, [1, 2], [1, 1, 5, 6]), [2, 3, 5, 6])
        self.assertEqual(added(7, [1, 1, 5, 6], [1, 2]), [2, 3, 5, 6])
        self.assertEqual(added(9973, [9972], [9972]), [9971])

    def test_no_things(self):
        self.assertEqual(added(7, [], []), [])
        self.assertEqual(added(7, [], [1, 2, 0]), [1, 2, 0])
        self.assertEqual(added(7, [1, 2, 0], []), [1, 2, 0])

    def test_noughts_at_the_end_are_kept(self):
        self.assertEqual(added(7, [1, 3], [6, 4]), [0, 0])
        self.assertEqual(added(7, [1, 0, 0], [1]), [2, 0, 0])
        self.assertEqual(added(7, [], [0]), [0])
        self.assertEqual(added(7, [0, 0], []), [0, 0])

    def test_every_pair_of_short_rows(self):
        for one in rows_up_to(3, 3):
            for other in rows_up_to(3, 3):
                told = added(3, one, other)
                self.assert_row(3, told, max(len(one), len(other)))
                for place, thing in enumerate(told):
                    parts = one[place:place + 1] + other[place:place + 1]
                    self.assertEqual(thing, sum(parts) % 3)

    def test_long_rows(self):
        chance = random.Random(2)
        for lengths in ((60, 60), (60, 0), (0, 60), (60, 1), (59, 60), (30, 45)):
            one, other = [some_row(chance, 9973, length) for length in lengths]
            told = added(9973, one, other)
            self.assert_row(9973, told, max(lengths))
            for at in (0, 1, 5, 9972):
                total = plain_worth(9973, one, at) + plain_worth(9973, other, at)
                self.assertEqual(plain_worth(9973, told, at), total % 9973)

    def test_no_row(self):
        self.assert_two_rows_refused(added, [1, 2])

    def test_no_prime_ahead_of_all(self):
        self.assert_no_prime_first(added, ([1], [2]))

    def test_nothing_is_shared(self):
        for one, other in (([1, 2, 3], [4, 5]), ([4, 5], [1, 2, 3]), ([], [1, 2]), ([1, 2], []), ([1], [1])):
            self.assert_nothing_is_shared(added, 7, one, other, lambda told: [told])

    def test_a_row_with_itself(self):
        row = [1, 2, 3]
        told = added(7, row, row)
        self.assertEqual((told, row), ([2, 4, 6], [1, 2, 3]))

    def test_no_things_are_told_anew_each_time(self):
        empty = []
        told = added(7, empty, empty)
        told.append(1)
        self.assertEqual((empty, added(7, empty, empty), added(7, [], [])), ([], [], []))


class Times(RowCase):
    def test_worked_out_by_hand(self):
        self.assertEqual(times(7, [1, 2], [3, 4]), [3, 3, 1])
        self.assertEqual(times(97, [1, 1], [1, 1]), [1, 2, 1])
        self.assertEqual(times(9973, [9972], [9972, 1]), [1, 9972])

    def test_no_things(self):
        for other in ([], [0], [1, 2, 3], [1] * 60):
            self.assertEqual(times(7, [], other), [])
            self.assertEqual(times(7, other, []), [])

    def test_noughts_at_the_end_are_kept(self):
        self.assertEqual(times(7, [0], [0]), [0])
        self.assertEqual(times(7, [0, 0], [1, 2, 3]), [0, 0, 0, 0])
        self.assertEqual(times(7, [1, 0], [2, 0, 0]), [2, 0, 0, 0])

    def test_every_pair_of_short_rows(self):
        for one in rows_up_to(3, 3):
            for other in rows_up_to(3, 3):
                told = times(3, one, other)
                length = len(one) + len(other) - 1 if one and other else 0
                self.assert_row(3, told, length)
                self.assertEqual(told, plain_times(3, one, other))
                self.assertEqual(times(3, other, one), told)
                for at in range(3):
                    factors = plain_worth(3, one, at) * plain_worth(3, other, at)
                    self.assertEqual(plain_worth(3, told, at), factors % 3)

    def test_just_60_things(self):
        chance = random.Random(3)
        for lengths in ((60, 1), (1, 60), (30, 31), (31, 30), (2, 59), (20, 41)):
            one, other = [some_row(chance, 9973, length) for length in lengths]
            told = times(9973, one, other)
            self.assert_row(9973, told, 60)
            self.assertEqual(told, plain_times(9973, one, other))
        self.assertEqual(times(7, [0] * 60, [0]), [0] * 60)

    def test_more_than_60_things(self):
        for lengths in ((60, 2), (2, 60), (31, 31), (30, 32), (60, 60)):
            for thing in (0, 1):
                one, other = [[thing] * length for length in lengths]
                assert_refused(self, "TooMany", times, 7, one, other)

    def test_no_row(self):
        self.assert_two_rows_refused(times, [1, 2])
        self.assert_two_rows_refused(times, [])

    def test_no_row_ahead_of_too_many(self):
        assert_refused(self, "BadRow", times, 7, [1] * 60, [1, 7])
        assert_refused(self, "BadRow", times, 7, [1, 7], [1] * 60)
        assert_refused(self, "BadRow", times, 7, [1] * 61, [1] * 60)
        assert_refused(self, "BadRow", times, 7, [1] * 60, [1] * 61)
        assert_refused(self, "BadRow", times, 7, [], [1] * 61)
        assert_refused(self, "BadRow", times, 7, [1] * 60, (1, 1))

    def test_no_prime_ahead_of_all(self):
        self.assert_no_prime_first(times, ([1], [2]))
        assert_refused(self, "NoPrime", times, 9, [1] * 60, [1] * 60)

    def test_nothing_is_shared(self):
        for one, other in (([1, 2, 3], [4, 5]), ([1], [4, 5]), ([4, 5], [1]), ([2], [3])):
            self.assert_nothing_is_shared(times, 7, one, other, lambda told: [told])

    def test_a_row_with_itself(self):
        row = [1, 2, 3]
        told = times(7, row, row)
        self.assertEqual((told, row), ([1, 4, 3, 5, 2], [1, 2, 3]))

    def test_no_things_are_told_anew_each_time(self):
        empty, other = [], [1, 2]
        for one, two in ((empty, other), (other, empty), (empty, empty)):
            told = times(7, one, two)
            told.append(1)
            self.assertEqual((empty, other, times(7, one, two)), ([], [1, 2], []))


class Parted(RowCase):
    def assert_parted(self, p, row, other):
        told = parted(p, row, other)
        self.assertIs(type(told), tuple)
        self.assertEqual(len(told), 2)
        quotient, rest = told
        self.assert_row(p, quotient, max(0, len(row) - len(other) + 1))
        self.assert_row(p, rest, len(other) - 1)
        whole = plain_times(p, other, quotient)
        length = max(len(whole), len(rest))
        whole = whole + [0] * (length - len(whole))
        for place, thing in enumerate(rest):
            whole[place] = (whole[place] + thing) % p
        self.assertEqual(without_end_noughts(whole), without_end_noughts(row))

    def test_worked_out_by_hand(self):
        self.assertEqual(parted(7, [1, 2, 3], [1, 2]), ([2, 5], [6]))
        self.assertEqual(parted(7, [6, 0, 1], [1, 1]), ([6, 1], [0]))
        self.assertEqual(parted(9973, [0, 0, 0, 1], [9972, 1]), ([1, 1, 1], [1]))

    def test_the_row_is_shorter(self):
        self.assertEqual(parted(7, [3], [1, 2, 3]), ([], [3, 0]))
        self.assertEqual(parted(7, [3, 4], [1, 2, 3]), ([], [3, 4]))
        self.assertEqual(parted(7, [0], [1, 2, 3]), ([], [0, 0]))
        self.assertEqual(parted(7, [6] * 10, [1] * 60), ([], [6] * 10 + [0] * 49))

    def test_the_row_has_no_things(self):
        self.assertEqual(parted(7, [], [5]), ([], []))
        self.assertEqual(parted(7, [], [5, 1]), ([], [0]))
        self.assertEqual(parted(7, [], [1, 2, 3]), ([], [0, 0]))

    def test_the_row_ends_with_noughts(self):
        self.assertEqual(parted(7, [3, 0, 0, 0], [1, 2]), ([0, 0, 0], [3]))
        self.assertEqual(parted(7, [0, 0, 0], [1, 2]), ([0, 0], [0]))
        self.assertEqual(parted(7, [1, 2, 0], [1, 2]), ([1, 0], [0]))

    def test_the_other_one_has_one_thing(self):
        self.assertEqual(parted(7, [1, 2, 3], [2]), ([4, 1, 5], []))
        self.assertEqual(parted(7, [1, 0], [1]), ([1, 0], []))
        self.assertEqual(parted(7, [0], [6]), ([0], []))

    def test_every_pair_of_short_rows(self):
        for p, length in ((3, 4), (5, 3)):
            for other in rows_up_to(p, 3):
                if other and other[-1] != 0:
                    for row in rows_up_to(p, length):
                        self.assert_parted(p, row, other)

    def test_long_rows(self):
        chance = random.Random(4)
        for p in (3, 97, 9973):
            for lengths in ((60, 60), (60, 1), (60, 2), (1, 60), (59, 60), (60, 59), (60, 30), (30, 20), (0, 60)):
                row = some_row(chance, p, lengths[0])
                other = some_row(chance, p, lengths[1] - 1) + [chance.randrange(1, p)]
                self.assert_parted(p, row, other)
        self.assert_parted(9973, [9972] * 60, [9972] * 30)

    def test_a_product_is_parted_without_a_rest(self):
        self.assertEqual(parted(97, times(97, [5, 6, 7], [8, 9, 0]), [5, 6, 7]), ([8, 9, 0], [0, 0]))

    def test_an_other_one_that_does_not_do(self):
        for row in ([], [0], [1], [1, 2, 3], [1] * 60):
            for other in ([], [0], [1, 0], [0, 0, 0], [1, 2, 3, 0], [1] * 59 + [0]):
                assert_refused(self, "BadRow", parted, 7, row, other)

    def test_no_row(self):
        self.assert_two_rows_refused(parted, [1, 2])
        for thing in no_rows(7):
            assert_refused(self, "BadRow", parted, 7, thing, [])
            assert_refused(self, "BadRow", parted, 7, thing, [1, 0])
            assert_refused(self, "BadRow", parted, 7, [], thing)

    def test_no_prime_ahead_of_all(self):
        self.assert_no_prime_first(parted, ([1, 2, 3], [1, 2]))
        assert_refused(self, "NoPrime", parted, 9, [1, 2, 3], [])

    def test_nothing_is_shared(self):
        for row, other in (([1, 2, 3, 4], [4, 5]), ([1, 2, 3], [1, 5, 3])):
            self.assert_nothing_is_shared(parted, 7, row, other, list)

    def test_nothing_is_shared_where_one_is_told_without_things(self):
        for row, other in (([1, 2], [1, 1, 1]), ([1, 2, 3], [2]), ([], [2]), ([], [1, 2]), ([3], [1, 2, 3])):
            handed = (list(row), list(other))
            told = parted(7, row, other)
            kept = copy.deepcopy(told)
            again = parted(7, row, other)
            self.assertIsNot(told[0], told[1])
            for part in told:
                self.assertIsNot(part, row)
                self.assertIsNot(part, other)
                part.append("changed")
            self.assertEqual((row, other), handed)
            self.assertEqual(again, kept)
            self.assertEqual(parted(7, row, other), kept)
            row.append(5)
            other.append(5)
            self.assertEqual(again, kept)

    def test_a_row_by_itself(self):
        row = [1, 2, 3]
        self.assertEqual(parted(7, row, row), ([1], [0, 0]))
        self.assertEqual(row, [1, 2, 3])


if __name__ == "__main__":
    unittest.main()
