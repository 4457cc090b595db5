"""Promises [6], [7] and [8]: shares, the number that they tell and what they leave open, and promise [1] for them."""

import itertools
import random
import unittest

from helpers import (
    assert_no_prime_first, assert_refused, assert_rests, assert_stands_alone, assert_told_again, assert_whole, no_needs,
    no_places, no_rests, no_rows, no_shares, no_whole_numbers, plain_shares, plain_worth, rows_of, some_places,
    some_row,
)

from partshare.parting import nth, number_of, shares_of, through, ways


def all_shares(p, most):
    """All shares that there are at most so many of, each at once in rising order of places."""
    for many in range(min(most, p - 1) + 1):
        for places in itertools.combinations(range(1, p), many):
            for worths in itertools.product(range(p), repeat=many):
                yield list(zip(places, worths))


def rows_on(p, need, most):
    """For each number and all shares, at most so many, the rows of need rests that lie on them, in rising order.

    Where no row does, there is no entry.
    """
    found = {}
    for row in rows_of(p, need):
        shares = plain_shares(p, row, range(1, p))
        for many in range(min(most, p - 1) + 1):
            for some in itertools.combinations(shares, many):
                found.setdefault((row[0], some), []).append(row)
    return found


class ShareCase(unittest.TestCase):
    def assert_no_shares_refused(self, function, ahead, behind):
        """What are no shares is refused; ahead of it and behind it stands what does."""
        for p in (3, 7, 9973):
            for thing in no_shares(p):
                assert_refused(self, "BadShares", function, p, *ahead, thing, *behind)

    def assert_no_needs_refused(self, function, *behind):
        """What is no need is refused, ahead of what is wrong behind it."""
        for thing in no_needs():
            assert_refused(self, "BadNeed", function, 7, thing, *behind)
            assert_refused(self, "BadNeed", function, 7, thing, None, *behind[1:])
            assert_refused(self, "BadNeed", function, 7, thing, [(0, 0)], *[None for _ in behind[1:]])


class SharesOf(ShareCase):
    def test_worked_out_by_hand(self):
        self.assertEqual(shares_of(7, [1, 2, 3], [1, 2, 3]), [(1, 6), (2, 3), (3, 6)])
        self.assertEqual(shares_of(97, [5, 1], [96, 1]), [(96, 4), (1, 6)])
        self.assertEqual(shares_of(3, [2], [2, 1]), [(2, 2), (1, 2)])

    def test_no_places(self):
        for row in ([], [0], [1, 2], [1] * 60):
            self.assertEqual(shares_of(7, row, []), [])

    def test_a_row_of_no_rests(self):
        self.assertEqual(shares_of(7, [], [3, 1]), [(3, 0), (1, 0)])

    def test_in_the_order_of_the_places(self):
        for places in itertools.permutations([1, 2, 3, 6]):
            self.assertEqual([place for place, _ in shares_of(7, [1, 2, 3], list(places))], list(places))

    def test_the_worths(self):
        chance = random.Random(21)
        for p in (3, 23, 101, 9973):
            for length in (0, 1, 2, 20, 59, 60):
                row = some_row(chance, p, length)
                places = some_places(chance, p, min(20, p - 1))
                told = shares_of(p, row, places)
                self.assertIs(type(told), list)
                self.assertEqual(told, plain_shares(p, row, places))
                for share in told:
                    self.assertIs(type(share), tuple)
                    assert_whole(self, share)

    def test_no_row(self):
        for thing in no_rows(7):
            assert_refused(self, "BadRow", shares_of, 7, thing, [])
            assert_refused(self, "BadRow", shares_of, 7, thing, [1, 2])

    def test_no_places_that_do(self):
        for p in (3, 7, 9973):
            for thing in no_places(p):
                assert_refused(self, "BadShares", shares_of, p, [], thing)
                assert_refused(self, "BadShares", shares_of, p, [1, 2], thing)

    def test_twenty_places_and_one_more(self):
        self.assertEqual(len(shares_of(23, [1, 2], list(range(1, 21)))), 20)
        assert_refused(self, "BadShares", shares_of, 23, [1, 2], list(range(1, 22)))

    def test_no_row_ahead_of_no_places(self):
        for thing in no_places(7):
            assert_refused(self, "BadRow", shares_of, 7, [7], thing)
            assert_refused(self, "BadRow", shares_of, 7, None, thing)

    def test_no_prime_ahead_of_all(self):
        assert_no_prime_first(self, shares_of, [1, 2], [1, 2])

    def test_nothing_is_shared(self):
        for row, places in (([1, 2, 3], [2, 1]), ([], [1]), ([1, 2], []), ([], []), ([5], [6, 5, 4])):
            assert_stands_alone(self, shares_of, 7, row, places)
        both = [1, 2]
        self.assertEqual(shares_of(7, both, both), [(1, 3), (2, 5)])
        self.assertEqual(both, [1, 2])


class Through(ShareCase):
    def test_worked_out_by_hand(self):
        self.assertEqual(through(7, [(1, 6), (2, 3), (3, 6)]), [1, 2, 3])
        self.assertEqual(through(97, [(96, 4), (1, 6)]), [5, 1])
        self.assertEqual(through(7, [(5, 4)]), [4])

    def test_no_shares(self):
        for p in (3, 7, 9973):
            self.assertEqual(through(p, []), [])

    def test_noughts_at_the_end_are_kept(self):
        self.assertEqual(through(7, [(1, 3), (2, 3), (3, 3)]), [3, 0, 0])
        self.assertEqual(through(7, [(1, 0), (6, 0)]), [0, 0])
        self.assertEqual(through(7, [(1, 1), (2, 2), (3, 3), (4, 4)]), [0, 1, 0, 0])
        self.assertEqual(through(23, [(place, 0) for place in range(1, 21)]), [0] * 20)

    def test_all_shares_of_small_primes(self):
        for p in (3, 5):
            for shares in all_shares(p, 4):
                told = through(p, shares)
                assert_rests(self, p, told, len(shares))
                for place, thing in shares:
                    self.assertEqual(plain_worth(p, told, place), thing)
                self.assertEqual(through(p, shares[::-1]), told)

    def test_up_to_20_shares(self):
        chance = random.Random(22)
        for p in (23, 101, 9973):
            for many in (1, 2, 3, 10, 19, 20):
                row = some_row(chance, p, many)
                shares = plain_shares(p, row, some_places(chance, p, many))
                self.assertEqual(through(p, shares), row)
                chance.shuffle(shares)
                self.assertEqual(through(p, shares), row)

    def test_as_many_places_as_there_are(self):
        for p in (3, 5, 7, 19):
            row = [p - 1] * (p - 1)
            self.assertEqual(through(p, plain_shares(p, row, range(p - 1, 0, -1))), row)

    def test_what_are_no_shares(self):
        self.assert_no_shares_refused(through, (), ())

    def test_each_kind_named(self):
        for shares in (
            (), None, [[1, 2]], [(1, 2, 3)], [(1,)], [()], [(1, 2), (1, 2)], [(1, 2), (2, 2), (1, 3)], [(0, 1)],
            [(7, 1)], [(1, 7)], [(1, -1)], [(-1, 1)], [(1, True)], [(True, 1)], [("1", 1)], [(1, "1")], ["11"],
            [(1, None)], [1], [(1, 2), 2],
        ):
            assert_refused(self, "BadShares", through, 7, shares)
        assert_refused(self, "BadShares", through, 23, [(place, 0) for place in range(1, 22)])

    def test_no_prime_ahead_of_all(self):
        assert_no_prime_first(self, through, [(1, 2), (2, 2)])

    def test_nothing_is_shared(self):
        for shares in ([], [(1, 2)], [(3, 2), (1, 0), (2, 5)]):
            assert_stands_alone(self, through, 7, shares)


class NumberOf(ShareCase):
    def test_worked_out_by_hand(self):
        self.assertEqual(number_of(7, 3, [(1, 6), (2, 3), (3, 6)]), 1)
        self.assertEqual(number_of(97, 2, [(96, 4), (1, 6)]), 5)
        self.assertEqual(number_of(7, 1, [(5, 4)]), 4)
        self.assertEqual(number_of(7, 1, [(5, 4), (2, 4), (1, 4)]), 4)

    def test_any_so_many_shares_in_any_order(self):
        for p, need in ((3, 1), (3, 2), (5, 1), (5, 2), (5, 3)):
            for row in rows_of(p, need):
                shares = plain_shares(p, row, range(1, p))
                for many in range(need, p):
                    for some in itertools.permutations(shares, many):
                        told = number_of(p, need, list(some))
                        self.assertIs(type(told), int)
                        self.assertEqual(told, row[0])

    def test_great_needs(self):
        chance = random.Random(23)
        for p in (23, 9973):
            for need, many in ((1, 20), (10, 10), (10, 20), (19, 20), (20, 20)):
                row = some_row(chance, p, need)
                shares = plain_shares(p, row, some_places(chance, p, many))
                self.assertEqual(number_of(p, need, shares), row[0])

    def test_shares_of_a_shorter_row(self):
        self.assertEqual(number_of(7, 3, [(1, 4), (2, 4), (3, 4), (4, 4)]), 4)
        self.assertEqual(number_of(7, 4, plain_shares(7, [3, 5], [6, 5, 4, 3, 2])), 3)

    def test_too_few(self):
        for need in range(1, 21):
            for many in {0, need // 2, need - 1}:
                shares = [(place, 5) for place in range(1, many + 1)]
                assert_refused(self, "TooFew", number_of, 23, need, shares)
        assert_refused(self, "TooFew", number_of, 3, 20, [(1, 1), (2, 1)])
        assert_refused(self, "TooFew", number_of, 3, 3, [(1, 1), (2, 1)])

    def test_unlike_whichever_has_another_worth(self):
        for need in (1, 2, 3, 4):
            row = [5, 1, 0, 3][:need]
            good = plain_shares(7, row, [3, 1, 6, 2, 5, 4])
            for at in range(6):
                for off in range(1, 7):
                    shares = list(good)
                    shares[at] = (good[at][0], (good[at][1] + off) % 7)
                    assert_refused(self, "Unlike", number_of, 7, need, shares)

    def test_unlike_where_the_last_of_20_is(self):
        shares = plain_shares(9973, [9, 8, 7], range(1, 21))
        for at in range(20):
            wrong = list(shares)
            wrong[at] = (wrong[at][0], (wrong[at][1] + 1) % 9973)
            assert_refused(self, "Unlike", number_of, 9973, 3, wrong)
            assert_refused(self, "Unlike", number_of, 9973, 19, wrong)
            self.assertEqual(number_of(9973, 3, [share for share in wrong if share != wrong[at]]), 9)

    def test_every_other_share_for_a_small_prime(self):
        for shares in all_shares(5, 3):
            for need in (1, 2):
                if len(shares) > need:
                    rows = [row for row in rows_of(5, need)
                            if plain_shares(5, row, [place for place, _ in shares]) == shares]
                    if rows:
                        self.assertEqual(number_of(5, need, shares), rows[0][0])
                    else:
                        assert_refused(self, "Unlike", number_of, 5, need, shares)

    def test_no_need_ahead_of_no_shares(self):
        self.assert_no_needs_refused(number_of, [(1, 2), (2, 2)])

    def test_what_are_no_shares(self):
        for need in (1, 20):
            self.assert_no_shares_refused(number_of, (need,), ())

    def test_no_shares_ahead_of_too_few_and_unlike(self):
        assert_refused(self, "BadShares", number_of, 7, 20, [(1, 7)])
        assert_refused(self, "BadShares", number_of, 7, 1, [(1, 2), (2, 3), (3, 7)])
        assert_refused(self, "BadShares", number_of, 7, 1, [(1, 2), (2, 3), (1, 2)])

    def test_no_prime_ahead_of_all(self):
        assert_no_prime_first(self, number_of, 2, [(1, 2), (2, 2)])
        assert_refused(self, "NoPrime", number_of, 9, 2, [(1, 2)])

    def test_nothing_is_shared(self):
        assert_stands_alone(self, number_of, 7, 2, [(1, 3), (2, 5)])
        assert_stands_alone(self, number_of, 7, 2, [(1, 3), (2, 5), (3, 0)])


class Ways(ShareCase):
    def test_worked_out_by_hand(self):
        self.assertEqual(ways(7, 3, [], 5), 49)
        self.assertEqual(ways(7, 3, [(1, 2)], 5), 7)
        self.assertEqual(ways(7, 3, [(1, 2), (4, 4)], 5), 1)
        self.assertEqual(ways(7, 3, [(1, 6), (2, 3), (3, 6)], 1), 1)
        self.assertEqual(ways(7, 3, [(1, 6), (2, 3), (3, 6)], 2), 0)
        self.assertEqual(ways(7, 1, [], 5), 1)

    def test_equally_many_for_each_number(self):
        for need in (1, 2, 5, 6):
            for many in range(need):
                shares = [(place, place * place % 7) for place in range(1, many + 1)]
                self.assertEqual([ways(7, need, shares, number) for number in range(7)], [7 ** (need - 1 - many)] * 7)

    def test_great_primes_and_needs(self):
        for many in range(20):
            shares = [(place, 9972 - place) for place in range(1, many + 1)]
            for number in (0, 1, 5000, 9972):
                told = ways(9973, 20, shares, number)
                self.assertIs(type(told), int)
                self.assertEqual(told, 9973 ** (19 - many))
        self.assertEqual(ways(3, 20, [(1, 0), (2, 0)], 2), 3 ** 17)

    def test_as_many_as_the_need_or_more(self):
        shares = plain_shares(9973, list(range(20)), range(101, 121))
        self.assertEqual([ways(9973, 20, shares, number) for number in (0, 1, 9972)], [1, 0, 0])
        shares = plain_shares(9973, [4, 0, 9], range(101, 121))
        self.assertEqual([ways(9973, 3, shares, number) for number in (4, 0, 5)], [1, 0, 0])
        self.assertEqual([ways(9973, 2, shares, number) for number in (4, 0, 5)], [0, 0, 0])
        for at in range(20):
            wrong = list(shares)
            wrong[at] = (wrong[at][0], (wrong[at][1] + 5) % 9973)
            self.assertEqual(ways(9973, 3, wrong, 4), 0)

    def test_no_more_than_ints_are_told(self):
        for shares in ([(1, 1)], [(1, 2)], [(1, 1), (2, 2)], []):
            for number in (1, 2):
                self.assertIs(type(ways(3, 1, shares, number)), int)

    def test_no_need_ahead_of_all_else(self):
        self.assert_no_needs_refused(ways, [(1, 2), (2, 2)], 3)

    def test_what_are_no_shares(self):
        self.assert_no_shares_refused(ways, (2,), (1,))
        self.assert_no_shares_refused(ways, (20,), (None,))

    def test_what_is_no_rest(self):
        for shares in ([], [(1, 1)], [(1, 1), (2, 1)]):
            for thing in no_rests(7):
                assert_refused(self, "BadRest", ways, 7, 2, shares, thing)

    def test_no_prime_ahead_of_all(self):
        assert_no_prime_first(self, ways, 2, [(1, 2), (2, 2)], 2)

    def test_nothing_is_shared(self):
        for shares in ([], [(1, 3)], [(1, 3), (2, 5)], [(1, 3), (2, 5), (3, 0)]):
            assert_stands_alone(self, ways, 7, 2, shares, 1)


class Nth(ShareCase):
    def test_worked_out_by_hand(self):
        self.assertEqual([nth(3, 2, [], 2, which) for which in range(3)], [[2, 0], [2, 1], [2, 2]])
        self.assertEqual([nth(3, 3, [(1, 0)], 1, which) for which in range(3)], [[1, 0, 2], [1, 1, 1], [1, 2, 0]])
        self.assertEqual(nth(7, 3, [(1, 6), (2, 3), (3, 6)], 1, 0), [1, 2, 3])
        self.assertEqual(nth(7, 1, [], 5, 0), [5])

    def test_every_row_on_all_shares_of_small_primes(self):
        for p in (3, 5):
            for need in (1, 2, 3):
                found = rows_on(p, need, 4)
                for at, shares in enumerate(all_shares(p, 4)):
                    # Each way of beginning with another share, so that many orders come up.
                    turn = at % (len(shares) or 1)
                    handed = shares[turn:] + shares[:turn]
                    for number in range(p):
                        rows = found.get((number, tuple(shares)), [])
                        self.assertEqual(ways(p, need, handed, number), len(rows))
                        told = [nth(p, need, handed, number, which) for which in range(len(rows))]
                        self.assertEqual(told, rows)
                        assert_refused(self, "NoWay", nth, p, need, handed, number, len(rows))

    def test_some_shares_of_a_longer_row(self):
        chance = random.Random(24)
        found = rows_on(7, 4, 3)
        for many in (0, 1, 2, 3):
            for _ in range(5):
                shares = [(place, chance.randrange(7)) for place in some_places(chance, 7, many)]
                number = chance.randrange(7)
                rows = found[number, tuple(sorted(shares))]
                self.assertEqual(ways(7, 4, shares, number), len(rows))
                self.assertEqual([nth(7, 4, shares, number, which) for which in range(len(rows))], rows)

    def test_a_need_of_20(self):
        chance = random.Random(25)
        for p, counts in ((9973, (0, 1, 5, 10, 18, 19)), (23, (0, 10, 19)), (3, (0, 1, 2))):
            for many in counts:
                shares = [(place, chance.randrange(p)) for place in some_places(chance, p, many)]
                number = chance.randrange(p)
                count = p ** (19 - many)
                for which in {0, count // 2, count - 1, chance.randrange(count)}:
                    row = nth(p, 20, shares, number, which)
                    assert_rests(self, p, row, 20)
                    self.assertEqual(row[0], number)
                    self.assertEqual(plain_shares(p, row, [place for place, _ in shares]), shares)
                    read = 0
                    for rest in row[1:20 - many]:
                        read = read * p + rest
                    self.assertEqual(read, which)
                    if which > 0:
                        self.assertLess(nth(p, 20, shares, number, which - 1), row)
                for which in (count, count + 1, count * p, -1, -count):
                    assert_refused(self, "NoWay", nth, p, 20, shares, number, which)

    def test_the_first_and_the_last_without_shares(self):
        self.assertEqual(nth(9973, 20, [], 5, 0), [5] + [0] * 19)
        self.assertEqual(nth(9973, 20, [], 5, 1), [5] + [0] * 18 + [1])
        self.assertEqual(nth(9973, 20, [], 5, 9973), [5] + [0] * 17 + [1, 0])
        self.assertEqual(nth(9973, 20, [], 5, 9973 ** 19 - 1), [5] + [9972] * 19)

    def test_as_many_as_the_need_or_more(self):
        row = list(range(20))
        shares = plain_shares(9973, row, range(101, 121))
        self.assertEqual(nth(9973, 20, shares, 0, 0), row)
        for number in (1, 9972):
            assert_refused(self, "NoWay", nth, 9973, 20, shares, number, 0)
        for which in (1, 2, -1, True):
            assert_refused(self, "NoWay", nth, 9973, 20, shares, 0, which)
        shares = plain_shares(9973, [4, 0, 9], range(101, 121))
        self.assertEqual(nth(9973, 3, shares, 4, 0), [4, 0, 9])
        shares[-1] = (120, 0)
        assert_refused(self, "NoWay", nth, 9973, 3, shares, 4, 0)

    def test_no_number_of_one(self):
        for shares in ([], [(1, 2)], [(1, 2), (2, 2)], [(1, 2), (2, 2), (3, 2)], [(1, 2), (2, 2), (3, 3)]):
            for thing in no_whole_numbers() + [-1, -2, -49, 49, 50, 10 ** 5000, -10 ** 5000]:
                assert_refused(self, "NoWay", nth, 7, 3, shares, 2, thing)

    def test_no_need_ahead_of_all_else(self):
        self.assert_no_needs_refused(nth, [(1, 2), (2, 2)], 3, 0)
        self.assert_no_needs_refused(nth, [(1, 2), (2, 2)], 7, -1)

    def test_what_are_no_shares(self):
        self.assert_no_shares_refused(nth, (2,), (1, 0))
        self.assert_no_shares_refused(nth, (20,), (None, None))

    def test_what_is_no_rest(self):
        for shares in ([], [(1, 1)], [(1, 1), (2, 1)], [(1, 1), (2, 1), (3, 2)]):
            for thing in no_rests(7):
                assert_refused(self, "BadRest", nth, 7, 2, shares, thing, 0)
                assert_refused(self, "BadRest", nth, 7, 2, shares, thing, None)

    def test_no_prime_ahead_of_all(self):
        assert_no_prime_first(self, nth, 2, [(1, 2), (2, 2)], 2, 0)
        assert_no_prime_first(self, nth, 2, [(1, 2)], 2, -1)

    def test_nothing_is_shared(self):
        for shares in ([], [(1, 3)], [(1, 3), (2, 5)], [(1, 3), (2, 5), (3, 0)]):
            assert_stands_alone(self, nth, 7, 2, shares, 1, 0)
        assert_stands_alone(self, nth, 7, 3, [(4, 4)], 1, 5)


class StandsAlone(unittest.TestCase):
    def test_the_same_is_told_with_other_questions_in_between(self):
        questions = [
            (shares_of, 7, [1, 2], [1, 2]), (shares_of, 7, [1, 3], [1, 2]), (shares_of, 5, [1, 2], [1, 2]),
            (through, 7, [(1, 3), (2, 5)]), (through, 7, [(2, 5), (1, 4)]), (through, 5, [(1, 3), (2, 4)]),
            (number_of, 7, 2, [(1, 3), (2, 5), (3, 0)]), (number_of, 7, 1, [(1, 3), (2, 3)]),
            (ways, 7, 2, [(1, 3)], 1), (ways, 7, 3, [(1, 3)], 1), (ways, 5, 3, [(1, 3)], 1),
            (nth, 7, 2, [(1, 3)], 1, 0), (nth, 7, 3, [(1, 3)], 1, 5), (nth, 7, 3, [(1, 3)], 1, 4),
        ]
        assert_told_again(self, questions)

    def test_what_was_refused_is_not_changed(self):
        shares, row, places = [(1, 3), (2, 5), (3, 1)], [1, 7], [1, 1]
        assert_refused(self, "Unlike", number_of, 7, 2, shares)
        assert_refused(self, "NoWay", nth, 7, 2, shares, 1, 0)
        assert_refused(self, "BadRow", shares_of, 7, row, places)
        assert_refused(self, "BadShares", shares_of, 11, row, places)
        self.assertEqual((shares, row, places), ([(1, 3), (2, 5), (3, 1)], [1, 7], [1, 1]))


if __name__ == "__main__":
    unittest.main()
