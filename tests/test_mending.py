"""Promise [12]: shares are mended, and the wrong ones found out; [7] beside it, and promise [1] for it."""

import itertools
import random
import unittest

from helpers import (
    assert_no_prime_first, assert_refused, assert_rests, assert_stands_alone, assert_told_again, assert_whole, no_needs,
    no_shares, plain_shares, plain_worth, rows_of, some_places, some_row, told_by, with_wrong,
)

from partshare.mending import mended
from partshare.parting import number_of


class RowsGoneThrough:
    """All rows of need rests over a small prime: what they say of shares, gone through one by one."""

    def __init__(self, p, need):
        self.need = need
        self.rows = [(row, [plain_worth(p, row, at) for at in range(p)]) for row in rows_of(p, need)]

    def mended(self, shares):
        """Every row on which all shares lie but half of what is over at most, with the places of the wrong ones."""
        most = (len(shares) - self.need) // 2
        found = []
        for row, worths in self.rows:
            wrong = [place for place, thing in shares if worths[place] != thing]
            if len(wrong) <= most:
                found.append((row, sorted(wrong)))
        return found


class MendCase(unittest.TestCase):
    def assert_mended(self, p, need, shares, row, wrong):
        """This row is told, with these places, and each is of the kind that it should be."""
        told = mended(p, need, shares)
        self.assertIs(type(told), tuple)
        self.assertEqual(len(told), 2)
        assert_rests(self, p, told[0], need)
        self.assertIs(type(told[1]), list)
        assert_whole(self, told[1])
        self.assertEqual(told, (row, sorted(wrong)))

    def assert_as_gone_through(self, p, gone_through, shares):
        """What is told is what all rows, gone through one by one, say."""
        found = gone_through.mended(shares)
        self.assertLessEqual(len(found), 1)
        if found:
            self.assert_mended(p, gone_through.need, shares, *found[0])
        else:
            assert_refused(self, "Unlike", mended, p, gone_through.need, shares)
        return len(found)


class ByHand(MendCase):
    def test_one_of_three_is_wrong(self):
        self.assert_mended(7, 1, [(1, 4), (2, 4), (3, 5)], [4], [3])
        self.assert_mended(7, 1, [(6, 0), (2, 4), (3, 0)], [0], [2])

    def test_one_of_four_is_wrong(self):
        # [1, 2] has the worths 3, 5, 0 and 2 at the places 1 to 4.
        self.assert_mended(7, 2, [(1, 3), (2, 5), (3, 0), (4, 2)], [1, 2], [])
        self.assert_mended(7, 2, [(1, 3), (2, 5), (3, 0), (4, 6)], [1, 2], [4])
        self.assert_mended(7, 2, [(1, 0), (2, 5), (3, 0), (4, 2)], [1, 2], [1])
        self.assert_mended(7, 2, [(4, 2), (2, 0), (1, 3), (3, 0)], [1, 2], [2])

    def test_two_of_four_are_too_many(self):
        # The rows through any two of the first three have 2, 0 and 4 at the place 4.
        self.assert_mended(7, 2, [(1, 3), (2, 5), (3, 1), (4, 2)], [1, 2], [3])
        self.assert_mended(7, 2, [(1, 3), (2, 5), (3, 1), (4, 0)], [4, 6], [2])
        self.assert_mended(7, 2, [(1, 3), (2, 5), (3, 1), (4, 4)], [6, 3], [1])
        for thing in (1, 3, 5, 6):
            assert_refused(self, "Unlike", mended, 7, 2, [(1, 3), (2, 5), (3, 1), (4, thing)])

    def test_half_and_half(self):
        assert_refused(self, "Unlike", mended, 7, 1, [(1, 4), (2, 5)])
        assert_refused(self, "Unlike", mended, 7, 1, [(1, 4), (2, 5), (3, 4), (4, 5)])
        self.assert_mended(7, 1, [(1, 4), (2, 5), (3, 4), (4, 5), (5, 5)], [5], [1, 3])
        assert_refused(self, "Unlike", mended, 7, 1, [(1, 4), (2, 5), (3, 4), (4, 5), (5, 5), (6, 4)])
        self.assert_mended(7, 1, [(1, 4), (2, 4), (3, 4), (4, 5), (5, 5), (6, 4)], [4], [4, 5])

    def test_half_of_what_is_over_is_rounded_down(self):
        self.assert_mended(7, 2, [(1, 3), (2, 5), (3, 0)], [1, 2], [])
        for at in range(3):
            shares = [(1, 3), (2, 5), (3, 0)]
            shares[at] = (at + 1, (shares[at][1] + 1) % 7)
            assert_refused(self, "Unlike", mended, 7, 2, shares)

    def test_places_rise_whatever_the_order_of_the_shares(self):
        shares = [(1, 0), (2, 1), (3, 0), (4, 2), (5, 0)]
        for some in itertools.permutations(shares):
            self.assert_mended(7, 1, list(some), [0], [2, 4])


class AsManyAsTheNeed(MendCase):
    def test_any_worths_for_small_primes(self):
        for p, need in ((3, 1), (3, 2), (5, 1), (5, 2), (5, 3), (7, 2)):
            for row in rows_of(p, need):
                for places in itertools.permutations(range(1, p), need):
                    self.assert_mended(p, need, plain_shares(p, row, places), row, [])

    def test_great_primes_and_needs(self):
        chance = random.Random(41)
        for p in (23, 101, 9973):
            for need in range(1, 21):
                row = some_row(chance, p, need)
                self.assert_mended(p, need, plain_shares(p, row, some_places(chance, p, need)), row, [])


class GoneThrough(MendCase):
    def test_all_shares_of_3_and_5(self):
        chance = random.Random(42)
        for p in (3, 5):
            for need in (1, 2, 3):
                gone_through = RowsGoneThrough(p, need)
                for many in range(need, p):
                    for places in itertools.combinations(range(1, p), many):
                        for worths in itertools.product(range(p), repeat=many):
                            shares = list(zip(places, worths))
                            chance.shuffle(shares)
                            self.assert_as_gone_through(p, gone_through, shares)

    def test_all_worths_at_some_places_of_7(self):
        for need in (1, 2, 3):
            gone_through = RowsGoneThrough(7, need)
            for places in ([5], [2, 6], [4, 1, 3], [6, 2, 5, 1]):
                if len(places) >= need:
                    for worths in itertools.product(range(7), repeat=len(places)):
                        self.assert_as_gone_through(7, gone_through, list(zip(places, worths)))

    def test_some_worths_at_5_and_6_places_of_7(self):
        chance = random.Random(43)
        for need in (1, 2, 3):
            gone_through = RowsGoneThrough(7, need)
            found = []
            for many in (5, 6):
                for _ in range(400):
                    shares = [(place, chance.randrange(7)) for place in some_places(chance, 7, many)]
                    found.append(self.assert_as_gone_through(7, gone_through, shares))
            self.assertEqual(set(found), {0, 1})

    def test_rows_with_any_wrong_places_of_7(self):
        chance = random.Random(44)
        for need in (1, 2, 3):
            gone_through = RowsGoneThrough(7, need)
            for many in range(need, 7):
                for wrong in range(many + 1):
                    for _ in range(10):
                        places = some_places(chance, 7, many)
                        shares = plain_shares(7, some_row(chance, 7, need), places)
                        self.assert_as_gone_through(7, gone_through, with_wrong(chance, 7, shares, places[:wrong]))


class UpTo20(MendCase):
    def test_none_to_half_of_what_is_over(self):
        chance = random.Random(45)
        for p in (23, 101, 9973):
            for need in range(1, 21):
                for wrong in range((20 - need) // 2 + 1):
                    row, places = some_row(chance, p, need), some_places(chance, p, 20)
                    wrong_places = chance.sample(places, wrong)
                    shares = with_wrong(chance, p, plain_shares(p, row, places), wrong_places)
                    self.assert_mended(p, need, shares, row, wrong_places)

    def test_the_first_ones_and_the_last_ones_are_wrong(self):
        chance = random.Random(46)
        for p in (23, 9973):
            for need, many in ((1, 20), (1, 19), (2, 5), (3, 9), (7, 20), (8, 17), (16, 19), (18, 20)):
                row, places = some_row(chance, p, need), some_places(chance, p, many)
                most = (many - need) // 2
                for wrong_places in (places[:most], places[-most:], sorted(places)[:most], sorted(places)[-most:]):
                    shares = with_wrong(chance, p, plain_shares(p, row, places), wrong_places)
                    self.assert_mended(p, need, shares, row, wrong_places)

    def test_all_wrong_ones_are_shares_of_one_other_row(self):
        chance = random.Random(47)
        for p in (23, 101, 9973):
            for need in range(1, 19):
                row, other = some_row(chance, p, need), some_row(chance, p, need)
                other[-1] = (row[-1] + 1) % p
                places = some_places(chance, p, 20)
                most = (20 - need) // 2
                shares = plain_shares(p, row, places[most:]) + plain_shares(p, other, places[:most])
                chance.shuffle(shares)
                wrong = [place for place in places[:most] if plain_worth(p, row, place) != plain_worth(p, other, place)]
                self.assert_mended(p, need, shares, row, wrong)

    def test_a_row_that_ends_with_noughts_or_is_all_noughts(self):
        chance = random.Random(48)
        for p in (23, 9973):
            for need in (1, 2, 5, 11, 18, 20):
                for kept in {0, 1, need // 2}:
                    row = some_row(chance, p, kept) + [0] * (need - kept)
                    places = some_places(chance, p, 20)
                    wrong_places = places[:(20 - need) // 2]
                    shares = plain_shares(p, row, places)
                    self.assert_mended(p, need, shares, row, [])
                    self.assert_mended(p, need, with_wrong(chance, p, shares, wrong_places), row, wrong_places)

    def test_wrong_worths_of_noughts(self):
        for need in (1, 2, 6, 10):
            row = [0] * (need - 1) + [5]
            most = (20 - need) // 2
            shares = [(place, 0 if place <= most else plain_worth(101, row, place)) for place in range(1, 21)]
            self.assert_mended(101, need, shares, row, list(range(1, most + 1)))

    def test_one_wrong_one_too_many(self):
        chance = random.Random(49)
        for need in range(1, 21):
            for many in {need, need + 1, 20} - {21}:
                row, places = some_row(chance, 9973, need), some_places(chance, 9973, many)
                wrong_places = places[:(many - need) // 2 + 1]
                shares = with_wrong(chance, 9973, plain_shares(9973, row, places), wrong_places)
                if many > need:
                    assert_refused(self, "Unlike", mended, 9973, need, shares)
                else:
                    self.assertNotEqual(mended(9973, need, shares)[0], row)

    def test_any_worths(self):
        chance = random.Random(50)
        for p in (101, 9973):
            for need in (1, 2, 4, 9, 13, 17):
                for _ in range(5):
                    shares = [(place, chance.randrange(p)) for place in some_places(chance, p, 20)]
                    assert_refused(self, "Unlike", mended, p, need, shares)

    def test_shares_of_a_longer_row(self):
        chance = random.Random(51)
        for need in (1, 3, 10, 18):
            row = some_row(chance, 9973, need) + [7]
            shares = plain_shares(9973, row, some_places(chance, 9973, 20))
            assert_refused(self, "Unlike", mended, 9973, need, shares)
            self.assert_mended(9973, need + 1, shares, row, [])

    def test_two_rows_share_them_evenly(self):
        chance = random.Random(52)
        for need in (2, 4, 10):
            row, other, places = [1] * need, [2] * need, some_places(chance, 9973, 20)
            shares = plain_shares(9973, row, places[:10]) + plain_shares(9973, other, places[10:])
            assert_refused(self, "Unlike", mended, 9973, need, shares)


class BesideNumberOf(unittest.TestCase):
    def test_without_wrong_ones_both_tell_the_same_number(self):
        chance = random.Random(53)
        for need, many in ((1, 1), (1, 20), (3, 3), (3, 8), (10, 20), (20, 20)):
            shares = plain_shares(9973, some_row(chance, 9973, need), some_places(chance, 9973, many))
            self.assertEqual(mended(9973, need, shares)[0][0], number_of(9973, need, shares))

    def test_number_of_refuses_wrong_ones_that_are_mended(self):
        chance = random.Random(54)
        row, places = [9, 8, 7], some_places(chance, 9973, 9)
        for wrong in (1, 2, 3):
            shares = with_wrong(chance, 9973, plain_shares(9973, row, places), places[:wrong])
            self.assertEqual(mended(9973, 3, shares), (row, sorted(places[:wrong])))
            assert_refused(self, "Unlike", number_of, 9973, 3, shares)

    def test_both_refuse_too_few(self):
        for need in (1, 2, 20):
            shares = [(place, 5) for place in range(1, need)]
            assert_refused(self, "TooFew", number_of, 23, need, shares)
            assert_refused(self, "TooFew", mended, 23, need, shares)


class Refused(unittest.TestCase):
    def test_too_few(self):
        for need in range(1, 21):
            for many in {0, need // 2, need - 1}:
                assert_refused(self, "TooFew", mended, 23, need, [(place, 5) for place in range(1, many + 1)])
        for need in (3, 20):
            assert_refused(self, "TooFew", mended, 3, need, [(1, 1), (2, 1)])
        self.assertEqual(mended(23, 4, [(place, 5) for place in range(1, 5)]), ([5, 0, 0, 0], []))

    def test_no_need_ahead_of_all_behind_it(self):
        for thing in no_needs():
            for shares in ([(1, 1), (2, 1)], [(1, 1), (2, 2)], [], None, [(0, 0)], [(1, 1), (1, 1)]):
                assert_refused(self, "BadNeed", mended, 7, thing, shares)

    def test_what_are_no_shares_ahead_of_too_few_and_unlike(self):
        for p in (3, 7, 9973):
            for thing in no_shares(p):
                for need in (1, 20):
                    assert_refused(self, "BadShares", mended, p, need, thing)
        assert_refused(self, "BadShares", mended, 7, 20, [(1, 7)])
        assert_refused(self, "BadShares", mended, 7, 1, [(1, 2), (2, 3), (3, 7)])

    def test_no_prime_ahead_of_all(self):
        assert_no_prime_first(self, mended, 1, [(1, 1), (2, 1)])
        assert_no_prime_first(self, mended, 1, [(1, 1), (2, 2)])
        assert_no_prime_first(self, mended, 0, [(1, 1), (1, 1)])


class StandsAlone(unittest.TestCase):
    CASES = [
        (1, [(1, 4)]), (1, [(1, 4), (2, 4), (3, 5)]), (2, [(1, 3), (2, 5), (3, 0), (4, 6)]), (2, [(1, 3), (2, 5)]),
        (1, [(6, 0), (5, 0), (4, 0), (3, 1), (2, 2)]), (3, [(1, 0), (2, 0), (3, 0), (4, 0), (5, 1)]),
    ]

    def test_nothing_is_shared(self):
        for need, shares in self.CASES:
            assert_stands_alone(self, mended, 7, need, list(shares))

    def test_the_same_is_told_with_other_questions_in_between(self):
        questions = [(told_by, mended, p, need, list(shares)) for p in (7, 11) for need, shares in self.CASES]
        assert_told_again(self, questions)

    def test_what_was_refused_is_not_changed(self):
        for name, shares in (("Unlike", [(2, 5), (1, 3), (3, 1)]), ("TooFew", [(2, 5)]), ("BadShares", [(2, 5), (2, 5)])):
            kept = list(shares)
            assert_refused(self, name, mended, 7, 2, shares)
            self.assertEqual(shares, kept)


if __name__ == "__main__":
    unittest.main()
