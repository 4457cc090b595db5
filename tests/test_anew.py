"""Promises [9], [10] and [11]: shares given anew, and promise [1] for them."""

import itertools
import random
import unittest

from helpers import (
    assert_no_prime_first, assert_refused, assert_rests, assert_stands_alone, assert_told_again, assert_whole,
    no_places, no_rows, no_shares, plain_shares, plain_worth, rows_of, some_places, some_row,
)

from partshare.anew import gathered, refreshed, weights
from partshare.parting import number_of, shares_of, through


def summed(p, ones, others):
    """The sum of the products of both."""
    return sum(one * other for one, other in zip(ones, others)) % p


class Weights(unittest.TestCase):
    def assert_weights(self, p, places):
        """For each row of one 1 and else noughts the sum is the row's first thing; so it is for all rows."""
        told = weights(p, places)
        assert_rests(self, p, told, len(places))
        for at in range(len(places)):
            for length in range(at + 1, len(places) + 1):
                row = [0] * length
                row[at] = 1
                worths = [plain_worth(p, row, place) for place in places]
                self.assertEqual(summed(p, told, worths), row[0])

    def test_worked_out_by_hand(self):
        self.assertEqual(weights(7, [1, 2]), [2, 6])
        self.assertEqual(weights(7, [2, 1]), [6, 2])
        self.assertEqual(weights(7, [1, 2, 3]), [3, 4, 1])
        self.assertEqual(weights(3, [1, 2]), [2, 2])
        self.assertEqual(weights(9973, [9972, 1]), [4987, 4987])

    def test_no_places(self):
        for p in (3, 7, 9973):
            self.assertEqual(weights(p, []), [])

    def test_one_place(self):
        for p in (3, 7, 9973):
            for place in {1, 2, p - 1}:
                self.assertEqual(weights(p, [place]), [1])

    def test_all_places_of_small_primes(self):
        for p in (3, 5, 7):
            for many in range(p):
                for places in itertools.permutations(range(1, p), many):
                    if p < 7 or many < 4 or places[0] == 3:
                        self.assert_weights(p, list(places))

    def test_there_are_just_such_ones(self):
        for p, places in ((3, [2, 1]), (5, [4, 2]), (5, [1, 3, 4])):
            rows = [row for length in range(1, len(places) + 1) for row in rows_of(p, length)]
            shares = [[plain_worth(p, row, place) for place in places] for row in rows]
            found = [
                each for each in rows_of(p, len(places))
                if all(summed(p, each, worths) == row[0] for row, worths in zip(rows, shares))
            ]
            self.assertEqual([weights(p, places)], found)

    def test_up_to_20_places(self):
        chance = random.Random(31)
        for p in (23, 101, 9973):
            for many in (2, 5, 19, 20):
                self.assert_weights(p, some_places(chance, p, many))
        self.assert_weights(23, list(range(1, 21)))

    def test_no_places_that_do(self):
        for p in (3, 7, 9973):
            for thing in no_places(p):
                assert_refused(self, "BadShares", weights, p, thing)
        assert_refused(self, "BadShares", weights, 23, list(range(1, 22)))

    def test_no_prime_ahead_of_all(self):
        assert_no_prime_first(self, weights, [1, 2])

    def test_nothing_is_shared(self):
        for places in ([], [1], [3, 1, 2]):
            assert_stands_alone(self, weights, 7, places)


class Gathered(unittest.TestCase):
    def test_worked_out_by_hand(self):
        self.assertEqual(gathered(7, [1, 2], [3, 5]), 1)
        self.assertEqual(gathered(7, [1, 2, 3], [6, 3, 6]), 1)
        self.assertEqual(gathered(7, [4], [5]), 5)

    def test_of_none(self):
        for p in (3, 7, 9973):
            self.assertEqual(gathered(p, [], []), 0)

    def test_the_sum_of_parts_times_weights(self):
        chance = random.Random(32)
        for p in (3, 23, 101, 9973):
            for many in range(min(20, p - 1) + 1):
                places, parts = some_places(chance, p, many), some_row(chance, p, many)
                told = gathered(p, places, parts)
                assert_whole(self, [told])
                self.assertEqual(told, summed(p, weights(p, places), parts))
                self.assertIn(told, range(p))

    def test_the_first_thing_of_a_row(self):
        chance = random.Random(33)
        for p in (5, 23, 9973):
            for many in range(1, min(20, p - 1) + 1):
                places, row = some_places(chance, p, many), some_row(chance, p, many)
                self.assertEqual(gathered(p, places, [plain_worth(p, row, place) for place in places]), row[0])

    def test_no_places_that_do(self):
        for p in (3, 7, 9973):
            for thing in no_places(p):
                assert_refused(self, "BadShares", gathered, p, thing, [])
                assert_refused(self, "BadShares", gathered, p, thing, [1, 1])
        assert_refused(self, "BadShares", gathered, 23, list(range(1, 22)), [0] * 21)

    def test_no_places_ahead_of_no_parts(self):
        for thing in no_places(7):
            assert_refused(self, "BadShares", gathered, 7, thing, None)
            assert_refused(self, "BadShares", gathered, 7, thing, [7])

    def test_no_parts_that_do(self):
        for p in (3, 7, 9973):
            for thing in no_rows(p):
                for places in ([], [1], [2, 1], list(range(1, min(p, 21)))):
                    assert_refused(self, "BadRow", gathered, p, places, thing)

    def test_too_few_parts_and_too_many(self):
        for many in range(7):
            for parts in range(9):
                if parts != many:
                    assert_refused(self, "BadRow", gathered, 7, list(range(1, many + 1)), [0] * parts)
        for parts in (0, 19, 21, 60, 61):
            assert_refused(self, "BadRow", gathered, 23, list(range(1, 21)), [1] * parts)

    def test_no_prime_ahead_of_all(self):
        assert_no_prime_first(self, gathered, [1, 2], [1, 2])

    def test_nothing_is_shared(self):
        for places, parts in (([], []), ([1], [2]), ([3, 1, 2], [4, 5, 6])):
            assert_stands_alone(self, gathered, 7, places, parts)
        both = [1, 2]
        self.assertEqual(gathered(7, both, both), 0)
        self.assertEqual(both, [1, 2])


class Refreshed(unittest.TestCase):
    def test_worked_out_by_hand(self):
        self.assertEqual(refreshed(7, [(1, 3), (2, 5)], [0, 1]), [(1, 4), (2, 0)])
        self.assertEqual(refreshed(7, [(6, 0), (2, 5)], [0, 1, 1]), [(6, 0), (2, 4)])

    def test_no_shares(self):
        for row in ([], [0], [0, 1, 2], [0] * 60):
            self.assertEqual(refreshed(7, [], row), [])

    def test_a_row_of_noughts_or_of_none(self):
        shares = [(5, 1), (1, 0), (3, 6)]
        for row in ([], [0], [0, 0, 0], [0] * 60):
            told = refreshed(7, shares, row)
            self.assertEqual(told, shares)
            self.assertIsNot(told, shares)

    def test_places_and_order_stay_and_worths_are_added(self):
        chance = random.Random(34)
        for p in (3, 23, 9973):
            for length in (0, 1, 2, 5, 20, 60):
                row = [0] + some_row(chance, p, length - 1) if length else []
                shares = [(place, chance.randrange(p)) for place in some_places(chance, p, min(p - 1, 20))]
                told = refreshed(p, shares, row)
                self.assertIs(type(told), list)
                self.assertEqual(
                    told, [(place, (thing + plain_worth(p, row, place)) % p) for place, thing in shares]
                )
                for share in told:
                    self.assertIs(type(share), tuple)
                    assert_whole(self, share)

    def test_they_tell_the_same_number(self):
        chance = random.Random(35)
        for p in (5, 23, 9973):
            for need in range(1, min(p - 1, 20) + 1):
                row = some_row(chance, p, need)
                by = [0] + some_row(chance, p, need - 1)
                shares = plain_shares(p, row, some_places(chance, p, min(p - 1, 20)))
                told = refreshed(p, shares, by)
                self.assertEqual(number_of(p, need, told), row[0])
                self.assertEqual(number_of(p, need, told), number_of(p, need, shares))

    def test_they_are_shares_of_both_rows_added(self):
        told = refreshed(7, plain_shares(7, [5, 1], [1, 2, 3, 4]), [0, 3, 6])
        self.assertEqual(told, plain_shares(7, [5, 4, 6], [1, 2, 3, 4]))

    def test_what_are_no_shares(self):
        for p in (3, 7, 9973):
            for thing in no_shares(p):
                assert_refused(self, "BadShares", refreshed, p, thing, [])
                assert_refused(self, "BadShares", refreshed, p, thing, [0, 1])

    def test_no_shares_ahead_of_no_row(self):
        for thing in no_shares(7):
            assert_refused(self, "BadShares", refreshed, 7, thing, None)
            assert_refused(self, "BadShares", refreshed, 7, thing, [1])

    def test_no_row(self):
        for p in (3, 7, 9973):
            for thing in no_rows(p):
                for shares in ([], [(1, 1)], [(2, 0), (1, 2)]):
                    assert_refused(self, "BadRow", refreshed, p, shares, thing)

    def test_a_row_whose_worth_at_0_is_not_0(self):
        for p in (3, 7, 9973):
            for first in {1, 2, p - 1}:
                for behind in ([], [0], [1, 2], [0] * 59, [p - first]):
                    assert_refused(self, "BadRow", refreshed, p, [(1, 1), (2, 0)], [first] + behind)
                    assert_refused(self, "BadRow", refreshed, p, [], [first] + behind)

    def test_no_prime_ahead_of_all(self):
        assert_no_prime_first(self, refreshed, [(1, 2), (2, 2)], [0, 1])

    def test_nothing_is_shared(self):
        for shares in ([], [(1, 2)], [(3, 4), (1, 5), (2, 6)]):
            for row in ([], [0], [0, 1, 2]):
                assert_stands_alone(self, refreshed, 7, list(shares), list(row))


class DealtAnew(unittest.TestCase):
    def assert_dealt_anew(self, p, row, places, holders_rows, new_places):
        """What is gathered at the new places lies on a row as long as the longest, and tells the number."""
        dealt = [shares_of(p, each, new_places) for each in holders_rows]
        shares = []
        for at, place in enumerate(new_places):
            shares.append((place, gathered(p, places, [parts[at][1] for parts in dealt])))
        longest = max(len(each) for each in holders_rows)
        told = through(p, shares[:longest])
        assert_rests(self, p, told, longest)
        self.assertEqual(told[0], row[0])
        self.assertEqual(plain_shares(p, told, new_places), shares)
        self.assertEqual(number_of(p, longest, shares), row[0])

    def test_rows_of_several_lengths(self):
        chance = random.Random(36)
        for p in (23, 101, 9973):
            for need, many, lengths in (
                (1, 1, (1, 4)), (2, 3, (2, 2)), (3, 3, (1, 5)), (3, 5, (2, 3)), (4, 4, (1, 1)), (5, 20, (1, 20)),
                (20, 20, (3, 20)), (20, 20, (20, 20)),
            ):
                row = some_row(chance, p, need)
                places = some_places(chance, p, many)
                holders_rows = []
                for _, thing in plain_shares(p, row, places):
                    length = chance.randint(*lengths)
                    holders_rows.append([thing] + some_row(chance, p, length - 1))
                self.assert_dealt_anew(p, row, places, holders_rows, some_places(chance, p, 20))

    def test_the_longest_of_them_first_and_last(self):
        row, places = [5, 3], [4, 1, 6]
        worths = [thing for _, thing in plain_shares(7, row, places)]
        for at in range(3):
            holders_rows = [[thing] for thing in worths]
            holders_rows[at] = [worths[at], 2, 0, 6]
            self.assert_dealt_anew(7, row, places, holders_rows, [1, 2, 3, 4, 5, 6])

    def test_old_places_may_be_new_ones(self):
        self.assert_dealt_anew(7, [5, 3], [1, 2], [[1, 4], [4, 6]], [2, 1, 3])

    def test_a_wrong_worth_tells_another_number(self):
        shares = [gathered(7, [1, 2], [part, other]) for part, other in zip([5, 2], [1, 0])]
        self.assertNotEqual(number_of(7, 2, list(zip([1, 2], shares))), 5)


class StandsAlone(unittest.TestCase):
    def test_the_same_is_told_with_other_questions_in_between(self):
        questions = [
            (weights, 7, [1, 2]), (weights, 7, [2, 1]), (weights, 5, [1, 2]), (weights, 7, []),
            (gathered, 7, [1, 2], [3, 5]), (gathered, 7, [2, 1], [3, 5]), (gathered, 5, [1, 2], [3, 4]),
            (refreshed, 7, [(1, 2), (2, 2)], [0, 1]), (refreshed, 7, [(1, 2), (2, 2)], [0, 2]),
            (refreshed, 7, [(1, 2), (2, 2)], []), (refreshed, 5, [(1, 2), (2, 2)], [0, 1]),
        ]
        assert_told_again(self, questions)

    def test_what_was_refused_is_not_changed(self):
        places, parts, shares, row = [1, 1], [1, 2], [(1, 2), (2, 2)], [1, 2]
        assert_refused(self, "BadShares", weights, 7, places)
        assert_refused(self, "BadShares", gathered, 7, places, parts)
        assert_refused(self, "BadRow", refreshed, 7, shares, row)
        self.assertEqual((places, parts, shares, row), ([1, 1], [1, 2], [(1, 2), (2, 2)], [1, 2]))


if __name__ == "__main__":
    unittest.main()
