"""Promises [10], [11] and [12] for a vault, and promise [1] for it."""

import copy
import itertools
import random
import unittest

from helpers import (
    Touchy, assert_no_prime_first, assert_refused, assert_rests, assert_whole, lists_in, no_lists, no_needs, no_places,
    no_rests, no_rows, no_whole_numbers, plain_shares, plain_worth, some_places, some_row, spoil, told_by, with_wrong,
)

from partshare.anew import weights
from partshare.mending import mended
from partshare.parting import number_of
from partshare.vault import Vault


def filled(p, need, shares):
    """A vault in which these shares were put, in their order."""
    vault = Vault(p, need)
    for place, worth in shares:
        vault.put(place, worth)
    return vault


def state_of(vault):
    """All that a vault says of itself."""
    return vault.prime, vault.need, vault.shares(), told_by(vault.number), told_by(vault.wrong)


def holders_rows(chance, p, shares, length):
    """For each share, rising by places, a row of this length that begins with its worth."""
    return [[worth] + some_row(chance, p, length - 1) for _, worth in sorted(shares)]


def plainly_dealt(p, shares, places, rows):
    """The new shares by the words of the document."""
    often = weights(p, [place for place, _ in sorted(shares)])
    told = []
    for place in sorted(places):
        told.append((place, sum(each * plain_worth(p, row, place) for each, row in zip(often, rows)) % p))
    return told


class VaultCase(unittest.TestCase):
    def assert_refused_and_as_before(self, name, vault, method, *handed):
        """The method refuses by this error, and the vault is as it was."""
        before = state_of(vault)
        assert_refused(self, name, getattr(vault, method), *handed)
        self.assertEqual(state_of(vault), before)

    def assert_keeps(self, vault, p, need, shares):
        """The vault keeps just these shares, whatever their order."""
        self.assertEqual((vault.prime, vault.need), (p, need))
        told = vault.shares()
        self.assertIs(type(told), list)
        self.assertEqual(told, sorted(shares))
        for share in told:
            self.assertIs(type(share), tuple)
            assert_whole(self, share)

    def assert_tells(self, vault, number, wrong):
        """The vault tells this number, and these wrong places, as ints and a list."""
        told = vault.number()
        assert_whole(self, [told])
        self.assertEqual(told, number)
        told = vault.wrong()
        assert_rests(self, vault.prime, told, len(wrong))
        self.assertEqual(told, sorted(wrong))


class Made(VaultCase):
    def test_fields_and_no_shares_at_first(self):
        for p in (3, 7, 97, 9973):
            for need in range(1, 21):
                vault = Vault(p, need)
                assert_whole(self, [vault.prime, vault.need])
                self.assert_keeps(vault, p, need, [])
                assert_refused(self, "TooFew", vault.number)
                assert_refused(self, "TooFew", vault.wrong)

    def test_each_object_has_its_fields(self):
        self.assertLessEqual({"prime", "need"}, set(vars(Vault(7, 2))))

    def test_no_prime_ahead_of_no_need(self):
        assert_no_prime_first(self, Vault, 3)
        assert_no_prime_first(self, Vault, 0)

    def test_no_need(self):
        for p in (3, 97, 9973):
            for thing in no_needs():
                assert_refused(self, "BadNeed", Vault, p, thing)

    def test_by_names(self):
        vault = Vault(p=97, need=1)
        vault.put(place=1, worth=5)
        vault.refresh(row=[0, 1])
        self.assert_keeps(vault, 97, 1, [(1, 6)])
        vault.change(places=[2, 3], rows=[[6, 1]])
        self.assert_keeps(vault, 97, 2, [(2, 8), (3, 9)])
        self.assertEqual(vault.drop(place=2), 8)


class Put(VaultCase):
    def test_none_is_told_and_shares_rise(self):
        vault = Vault(97, 3)
        for place, worth in ((50, 1), (3, 96), (96, 0), (1, 5), (51, 1)):
            self.assertIsNone(vault.put(place, worth))
        self.assert_keeps(vault, 97, 3, [(1, 5), (3, 96), (50, 1), (51, 1), (96, 0)])

    def test_places_rise_as_numbers(self):
        vault = filled(9973, 1, [(place, 1) for place in (1000, 9, 100, 10, 99, 9972, 1)])
        self.assertEqual([place for place, _ in vault.shares()], [1, 9, 10, 99, 100, 1000, 9972])

    def test_every_share_of_a_small_prime(self):
        for p in (3, 5, 7):
            for place in range(1, p):
                for worth in range(p):
                    self.assert_keeps(filled(p, 20, [(place, worth)]), p, 20, [(place, worth)])

    def test_what_is_no_share(self):
        for p in (3, 97, 9973):
            for vault in (Vault(p, 2), filled(p, 1, [(1, 0), (2, 2)])):
                for thing in [0] + no_rests(p):
                    self.assert_refused_and_as_before("BadShares", vault, "put", thing, 1)
                for thing in no_rests(p):
                    self.assert_refused_and_as_before("BadShares", vault, "put", p - 1, thing)
                    self.assert_refused_and_as_before("BadShares", vault, "put", thing, thing)

    def test_taken(self):
        vault = filled(7, 2, [(1, 3), (4, 0), (6, 6)])
        for place in (1, 4, 6):
            for worth in range(7):
                self.assert_refused_and_as_before("Taken", vault, "put", place, worth)
        self.assertIsNone(vault.put(2, 3))

    def test_no_share_ahead_of_taken(self):
        vault = filled(7, 2, [(1, 3)])
        for thing in no_rests(7):
            self.assert_refused_and_as_before("BadShares", vault, "put", 1, thing)
        self.assert_refused_and_as_before("BadShares", vault, "put", True, 3)

    def test_20_and_one_more(self):
        for p in (23, 9973):
            vault = Vault(p, 4)
            shares = [(place, place % p) for place in range(20, 0, -1)]
            for place, worth in shares:
                self.assertIsNone(vault.put(place, worth))
            for place in (21, 22):
                self.assert_refused_and_as_before("TooMany", vault, "put", place, 5)
            for place in range(1, 21):
                self.assert_refused_and_as_before("Taken", vault, "put", place, 5)
            for thing in no_rests(p):
                self.assert_refused_and_as_before("BadShares", vault, "put", thing, 5)
                self.assert_refused_and_as_before("BadShares", vault, "put", 1, thing)
                self.assert_refused_and_as_before("BadShares", vault, "put", 22, thing)
            self.assert_refused_and_as_before("BadShares", vault, "put", 0, 5)
            vault.drop(7)
            self.assertIsNone(vault.put(22, 0))
            self.assert_refused_and_as_before("TooMany", vault, "put", 7, 5)
            self.assert_refused_and_as_before("Taken", vault, "put", 22, 5)


class Drop(VaultCase):
    def test_the_worth_is_told_and_the_place_is_free_again(self):
        vault = filled(97, 2, [(1, 5), (4, 96), (9, 0)])
        for place, worth in ((4, 96), (9, 0), (1, 5)):
            told = vault.drop(place)
            assert_whole(self, [told])
            self.assertEqual(told, worth)
            self.assert_refused_and_as_before("NoShare", vault, "drop", place)
            self.assertNotIn(place, [each for each, _ in vault.shares()])
            self.assertIsNone(vault.put(place, 7))
            self.assertEqual(vault.drop(place), 7)
        self.assert_keeps(vault, 97, 2, [])

    def test_what_is_no_place_of_a_share(self):
        for vault in (Vault(7, 2), filled(7, 2, [(5, 1), (1, 5), (2, 0)])):
            things = no_rests(7) + [0, 3, 4, 6, 7, "1", "5", b"1", 1.0, 5.0, 1 + 0j, (1, 5), [1], {1}, Touchy()]
            for thing in things:
                self.assert_refused_and_as_before("NoShare", vault, "drop", thing)

    def test_true_is_not_the_place_1(self):
        vault = filled(7, 1, [(1, 5)])
        self.assert_refused_and_as_before("NoShare", vault, "drop", True)
        self.assert_refused_and_as_before("NoShare", vault, "drop", 1.0)
        self.assertEqual(vault.drop(1), 5)

    def test_all_20_and_20_again(self):
        vault = filled(23, 2, [(place, 1) for place in range(1, 21)])
        for place in range(20, 0, -1):
            self.assertEqual(vault.drop(place), 1)
        self.assertEqual(vault.shares(), [])
        for place in range(3, 23):
            vault.put(place, 2)
        self.assertEqual(vault.shares(), [(place, 2) for place in range(3, 23)])


class NumberAndWrong(VaultCase):
    def test_by_hand(self):
        # [1, 2] has the worths 3, 5, 0 and 2 at the places 1 to 4.
        vault = filled(7, 2, [(4, 2), (2, 5), (1, 3)])
        self.assert_tells(vault, 1, [])
        vault.put(3, 6)
        self.assert_tells(vault, 1, [3])
        vault.drop(1)
        for method in ("number", "wrong"):
            self.assert_refused_and_as_before("Unlike", vault, method)
        self.assertEqual(vault.drop(3), 6)
        self.assert_tells(vault, 1, [])
        vault.drop(2)
        for method in ("number", "wrong"):
            self.assert_refused_and_as_before("TooFew", vault, method)

    def test_wrong_places_rise(self):
        shares = [(1, 0), (2, 1), (3, 0), (4, 2), (5, 0)]
        for some in itertools.permutations(shares):
            self.assert_tells(filled(7, 1, some), 0, [2, 4])

    def test_up_to_20_shares(self):
        chance = random.Random(71)
        for p in (23, 9973):
            for need in range(1, 21):
                row, places = some_row(chance, p, need), some_places(chance, p, 20)
                for wrong in {0, (20 - need) // 4, (20 - need) // 2}:
                    shares = with_wrong(chance, p, plain_shares(p, row, places), places[:wrong])
                    self.assert_tells(filled(p, need, shares), row[0], places[:wrong])

    def test_as_mended(self):
        chance = random.Random(72)
        for p in (3, 5, 7):
            for need in (1, 2, 3):
                for _ in range(60):
                    places = some_places(chance, p, chance.randrange(p))
                    shares = [(place, chance.randrange(min(p, 3))) for place in places]
                    kind, told = told_by(mended, p, need, shares)
                    vault = filled(p, need, shares)
                    if kind == "told":
                        self.assert_tells(vault, told[0][0], told[1])
                    else:
                        self.assert_refused_and_as_before(told, vault, "number")
                        self.assert_refused_and_as_before(told, vault, "wrong")

    def test_as_many_as_the_need_are_enough_and_one_less_is_not(self):
        for need in range(1, 21):
            vault = filled(23, need, [(place, 9) for place in range(1, need + 1)])
            self.assert_tells(vault, 9, [])
            vault.drop(need)
            self.assert_refused_and_as_before("TooFew", vault, "number")
            self.assert_refused_and_as_before("TooFew", vault, "wrong")


class Refresh(VaultCase):
    def test_by_hand(self):
        vault = filled(7, 2, [(3, 0), (1, 3), (2, 5), (4, 6)])
        self.assertIsNone(vault.refresh([0, 3]))
        self.assert_keeps(vault, 7, 2, [(1, 6), (2, 4), (3, 2), (4, 4)])
        self.assert_tells(vault, 1, [4])

    def test_the_number_and_the_wrong_places_stay(self):
        chance = random.Random(73)
        for p in (23, 9973):
            for need in range(1, 21):
                row, places = some_row(chance, p, need), some_places(chance, p, 20)
                wrong_places = places[:(20 - need) // 2]
                shares = with_wrong(chance, p, plain_shares(p, row, places), wrong_places)
                vault = filled(p, need, shares)
                for length in {0, 1, need // 2, need}:
                    by = ([0] + some_row(chance, p, length - 1))[:length]
                    self.assertIsNone(vault.refresh(by))
                    shares = [(place, (worth + plain_worth(p, by, place)) % p) for place, worth in shares]
                    self.assert_keeps(vault, p, need, shares)
                    self.assert_tells(vault, row[0], wrong_places)

    def test_all_are_refreshed_also_where_they_can_not_be_mended(self):
        vault = filled(7, 1, [(1, 4), (2, 5)])
        self.assertIsNone(vault.refresh([0, 0, 1]))
        self.assert_keeps(vault, 7, 1, [(1, 5), (2, 2)])
        vault = filled(7, 5, [(1, 4), (2, 5)])
        self.assertIsNone(vault.refresh([0, 1]))
        self.assert_keeps(vault, 7, 5, [(1, 5), (2, 0)])

    def test_a_row_longer_than_the_need(self):
        vault = filled(101, 1, [(place, 8) for place in range(1, 21)])
        self.assertIsNone(vault.refresh([0] * 59 + [1]))
        self.assertEqual(vault.need, 1)
        self.assertEqual(vault.shares(), [(place, (8 + pow(place, 59, 101)) % 101) for place in range(1, 21)])

    def test_without_shares(self):
        vault = Vault(7, 2)
        for row in ([], [0], [0, 1], [0] * 60):
            self.assertIsNone(vault.refresh(row))
            self.assert_keeps(vault, 7, 2, [])

    def test_no_row(self):
        for p in (3, 7, 9973):
            for vault in (Vault(p, 1), filled(p, 1, [(1, 1), (2, 1)]), filled(p, 1, [(1, 1), (2, 2)])):
                for thing in no_rows(p):
                    self.assert_refused_and_as_before("BadRow", vault, "refresh", thing)

    def test_a_row_whose_worth_at_0_is_not_0(self):
        for p in (3, 7, 9973):
            for vault in (Vault(p, 1), filled(p, 1, [(1, 1), (2, 1)])):
                for first in {1, 2, p - 1}:
                    for behind in ([], [0], [1, 2], [0] * 59, [p - first]):
                        self.assert_refused_and_as_before("BadRow", vault, "refresh", [first] + behind)


class Change(VaultCase):
    def test_by_hand(self):
        # [1, 2] has the worths 3 and 5 at the places 1 and 2, whose weights are 2 and 6.
        vault = filled(7, 2, [(2, 5), (1, 3)])
        self.assertIsNone(vault.change([6, 3, 4], [[3, 0, 1], [5, 1, 0]]))
        # 2 times [3, 0, 1] and 6 times [5, 1, 0] are [1, 6, 2].
        self.assert_keeps(vault, 7, 3, plain_shares(7, [1, 6, 2], [3, 4, 6]))
        self.assert_tells(vault, 1, [])

    def test_the_number_stays_whatever_the_lengths(self):
        chance = random.Random(74)
        for p in (23, 101, 9973):
            for need, many in ((1, 1), (1, 20), (2, 2), (2, 5), (3, 4), (10, 20), (20, 20)):
                for length in (1, 2, 3, 10, 20):
                    row, places = some_row(chance, p, need), some_places(chance, p, many)
                    shares = plain_shares(p, row, places)
                    vault = filled(p, need, shares)
                    rows, new_places = holders_rows(chance, p, shares, length), some_places(chance, p, 20)
                    self.assertIsNone(vault.change(new_places, rows))
                    self.assert_keeps(vault, p, length, plainly_dealt(p, shares, new_places, rows))
                    self.assert_tells(vault, row[0], [])
                    self.assertEqual(number_of(p, length, vault.shares()), row[0])

    def test_wrong_shares_are_dealt_like_the_others(self):
        chance = random.Random(75)
        for p in (23, 9973):
            for need, many, wrong in ((1, 3, 1), (2, 8, 3), (5, 20, 7), (3, 3, 1), (2, 3, 2)):
                places = some_places(chance, p, many)
                shares = with_wrong(chance, p, plain_shares(p, some_row(chance, p, need), places), places[:wrong])
                vault = filled(p, need, shares)
                rows, new_places = holders_rows(chance, p, shares, 4), some_places(chance, p, 10)
                self.assertIsNone(vault.change(new_places, rows))
                self.assert_keeps(vault, p, 4, plainly_dealt(p, shares, new_places, rows))
                # They are shares of one row again: it begins with what all of the old ones come to.
                often = weights(p, sorted(places))
                number = sum(each * worth for each, (_, worth) in zip(often, sorted(shares))) % p
                self.assert_tells(vault, number, [])

    def test_shares_that_can_not_be_mended_are_dealt_too(self):
        vault = filled(7, 1, [(1, 4), (2, 5)])
        assert_refused(self, "Unlike", vault.number)
        self.assertIsNone(vault.change([3], [[4], [5]]))
        self.assert_keeps(vault, 7, 1, [(3, (2 * 4 + 6 * 5) % 7)])

    def test_old_places_none_and_up_to_20(self):
        chance = random.Random(76)
        shares = plain_shares(23, [7, 1, 5], [2, 4, 6, 8])
        for new_places in (
            [2, 4, 6, 8], [8, 6, 4, 2], [4, 2], [6], [1, 2, 3, 4], [1, 3, 5], list(range(1, 21)), list(range(22, 2, -1)),
            [22], [],
        ):
            for length in (1, 2, 20):
                vault, rows = filled(23, 3, shares), holders_rows(chance, 23, shares, length)
                self.assertIsNone(vault.change(new_places, rows))
                self.assert_keeps(vault, 23, length, plainly_dealt(23, shares, new_places, rows))
                if len(new_places) >= length:
                    self.assert_tells(vault, 7, [])
                else:
                    self.assert_refused_and_as_before("TooFew", vault, "number")
                    self.assert_refused_and_as_before("TooFew", vault, "wrong")

    def test_rows_of_which_several_are_one_list(self):
        vault, row = filled(7, 1, [(1, 4), (2, 4), (3, 4)]), [4, 1]
        self.assertIsNone(vault.change([5, 6], [row, row, row]))
        self.assert_keeps(vault, 7, 2, plain_shares(7, [4, 1], [5, 6]))
        self.assertEqual(row, [4, 1])
        vault, row = filled(7, 1, [(1, 4)]), [4]
        self.assertIsNone(vault.change(row, [row]))
        self.assert_keeps(vault, 7, 1, [(4, 4)])

    def test_afterwards_everything_goes_on(self):
        vault = filled(97, 2, plain_shares(97, [42, 9], [1, 2, 3]))
        vault.change([10, 20, 30, 40, 50], [[51, 1, 1], [60, 2, 0], [69, 0, 0]])
        self.assertEqual((vault.need, vault.number(), vault.wrong()), (3, 42, []))
        self.assert_refused_and_as_before("NoShare", vault, "drop", 1)
        worth = vault.drop(20)
        self.assertIsNone(vault.put(20, (worth + 1) % 97))
        self.assert_tells(vault, 42, [20])
        vault.refresh([0, 5, 6])
        self.assert_tells(vault, 42, [20])
        vault.drop(20)
        self.assert_tells(vault, 42, [])
        vault.change([7, 20], [[worth] for _, worth in vault.shares()])
        self.assertEqual((vault.need, vault.shares()), (1, [(7, 42), (20, 42)]))
        vault.change([1, 2, 3], [[42, 6], [42, 7]])
        self.assert_tells(vault, 42, [])
        self.assertEqual(vault.need, 2)
        vault.change([], [[worth] * 5 for _, worth in vault.shares()])
        self.assert_keeps(vault, 97, 5, [])
        self.assert_refused_and_as_before("TooFew", vault, "change", [1], [])
        for place, worth in plain_shares(97, [1, 2, 3, 4, 5], [5, 4, 3, 2, 1]):
            vault.put(place, worth)
        self.assert_tells(vault, 1, [])

    def test_20_places_after_a_change_are_all_there_may_be(self):
        vault = filled(23, 1, [(1, 4)])
        vault.change(list(range(3, 23)), [[4, 1]])
        self.assert_refused_and_as_before("TooMany", vault, "put", 1, 4)
        self.assert_refused_and_as_before("Taken", vault, "put", 22, 4)


class ChangeRefused(VaultCase):
    SHARES = [(2, 5), (1, 3), (4, 2)]
    ROWS = [[3, 1], [5, 1], [2, 1]]

    def vault(self, need=2):
        """Shares of [1, 2] at the places 1, 2 and 4, as ROWS takes them."""
        return filled(7, need, self.SHARES)

    def bad_rows(self):
        """Things of many kinds, none of which are rows by which the holders of SHARES deal."""
        told = no_lists() + [(), ([3], [5], [2]), "352", {0: [3], 1: [5], 2: [2]}, iter(self.ROWS), 3, b"352"]
        told += [[], self.ROWS[:1], self.ROWS[:2], self.ROWS + [[2, 1]], self.ROWS + [[]], self.ROWS * 2, self.ROWS * 7]
        for at in range(3):
            first = self.ROWS[at][0]
            others = no_lists() + [first, (first, 1), (first,), str(first), {first: 1}, {0: first, 1: 1}, range(first, 7)]
            others += [[], [first] + [1] * 20, [first] + [1] * 59, [first] * 61, [first] * 1000]
            others += [[first, thing] for thing in no_rests(7)] + [[thing, 1] for thing in no_rests(7)]
            others += [[first], [first, 1, 1], [first, 1, 0], [[first], 1], [first, [1]], [first, [first, 1]]]
            others += [[worth, 1] for worth in range(7) if worth != first] + [[1, first], [first + 7, 1], [first - 7, 1]]
            for other in others:
                told.append(self.ROWS[:at] + [other] + self.ROWS[at + 1:])
        told += [[[3], [5, 1], [2, 1]], [[3, 1], [5], [2]], [[], [], []], [[3, 1], [5, 1], []]]
        told += [[[first] + [1] * 20 for first in (3, 5, 2)], [[first] * 60 for first in (3, 5, 2)]]
        # In the order in which they were put, and the other way round; and a row more, of a place without a share.
        told += [[[5, 1], [3, 1], [2, 1]], [[2, 1], [5, 1], [3, 1]], [[3, 1], [5, 1], [0, 1], [2, 1]]]
        endless = [[3, 1], [5, 1]]
        endless.append(endless)
        return told + [endless]

    def test_the_good_ones_do(self):
        for rows in (self.ROWS, [[3], [5], [2]], [[3] + [1] * 19, [5] + [2] * 19, [2] + [0] * 19]):
            self.assertIsNone(self.vault().change([1, 2], rows))

    def test_no_places(self):
        vault = self.vault()
        for thing in no_places(7):
            self.assert_refused_and_as_before("BadShares", vault, "change", thing, self.ROWS)
        self.assert_refused_and_as_before("BadShares", vault, "change", [(1, 3)], self.ROWS)
        great = filled(23, 1, [(1, 1)])
        self.assert_refused_and_as_before("BadShares", great, "change", list(range(1, 22)), [[1]])
        self.assert_refused_and_as_before("BadShares", great, "change", list(range(0, 20)), [[1]])

    def test_no_rows(self):
        vault = self.vault()
        for thing in self.bad_rows():
            for places in ([], [1, 2], [6, 5, 4, 3, 2, 1]):
                self.assert_refused_and_as_before("BadRow", vault, "change", places, thing)

    def test_no_places_ahead_of_no_rows(self):
        vault = self.vault()
        for thing in no_places(7):
            for rows in (None, [], self.ROWS[:2], [[3, 1], [5, 1], [1, 1]], [[3], [5, 1], [2, 1]]):
                self.assert_refused_and_as_before("BadShares", vault, "change", thing, rows)
        for rows in self.bad_rows():
            self.assert_refused_and_as_before("BadShares", vault, "change", [1, 1], rows)

    def test_fewer_shares_than_the_need(self):
        for need in (4, 5, 20):
            for places in ([], [1], [1, 2, 3, 4, 5, 6]):
                for rows in (self.ROWS, [[3], [5], [2]], [[3] * 20, [5] * 20, [2] * 20]):
                    self.assert_refused_and_as_before("TooFew", self.vault(need), "change", places, rows)
        self.assertIsNone(self.vault(3).change([1], self.ROWS))

    def test_without_shares(self):
        for need in (1, 2, 20):
            self.assert_refused_and_as_before("TooFew", Vault(7, need), "change", [], [])
            self.assert_refused_and_as_before("TooFew", Vault(7, need), "change", [1, 2], [])
            self.assert_refused_and_as_before("BadRow", Vault(7, need), "change", [1], [[]])
            self.assert_refused_and_as_before("BadRow", Vault(7, need), "change", [1], [[1]])
            self.assert_refused_and_as_before("BadRow", Vault(7, need), "change", [1], ())
            self.assert_refused_and_as_before("BadShares", Vault(7, need), "change", [0], [])

    def test_no_places_and_no_rows_ahead_of_too_few(self):
        vault = self.vault(4)
        for thing in no_places(7):
            self.assert_refused_and_as_before("BadShares", vault, "change", thing, self.ROWS)
            self.assert_refused_and_as_before("BadShares", vault, "change", thing, None)
        for thing in self.bad_rows():
            self.assert_refused_and_as_before("BadRow", vault, "change", [1, 2], thing)

    def test_what_is_refused_is_not_changed(self):
        for name, need, places, rows in (
            ("BadShares", 2, [1, 1], [[3, 1], [5, 1], [2, 1]]), ("BadRow", 2, [2, 1], [[3, 1], [5, 1], [3, 1]]),
            ("TooFew", 4, [2, 1], [[3, 1], [5, 1], [2, 1]]),
        ):
            kept = copy.deepcopy((places, rows))
            self.assert_refused_and_as_before(name, self.vault(need), "change", places, rows)
            self.assertEqual((places, rows), kept)


class StandsAlone(VaultCase):
    def test_two_vaults_do_not_touch_each_other(self):
        one, other = Vault(7, 2), Vault(7, 2)
        one.put(1, 3)
        self.assertEqual(other.shares(), [])
        other.put(1, 5)
        other.put(2, 5)
        one.put(2, 5)
        before = state_of(other)
        one.refresh([0, 1])
        one.change([3, 4, 5], [[worth, 1, 1] for _, worth in one.shares()])
        one.drop(3)
        self.assertEqual(state_of(other), before)
        before = state_of(one)
        other.change([6], [[5], [5]])
        other.drop(6)
        self.assertEqual(state_of(one), before)

    def test_shares_are_told_in_a_new_list_each_time(self):
        for shares in ([], [(1, 3)], [(4, 2), (1, 3), (2, 5)]):
            vault = filled(7, 2, shares)
            one, other = vault.shares(), vault.shares()
            self.assertIsNot(one, other)
            spoil(one)
            one.clear()
            self.assertEqual(other, sorted(shares))
            self.assert_keeps(vault, 7, 2, shares)

    def test_wrong_places_are_told_in_a_new_list_each_time(self):
        for shares, wrong in (([(1, 3), (2, 5)], []), ([(1, 3), (2, 5), (3, 6), (4, 2)], [3])):
            vault = filled(7, 2, shares)
            one, other = vault.wrong(), vault.wrong()
            self.assertIsNot(one, other)
            spoil(one)
            one.append(1)
            self.assertEqual(other, wrong)
            self.assert_tells(vault, 1, wrong)

    def test_what_was_told_stays_as_it_was(self):
        vault = filled(97, 2, plain_shares(97, [42, 9], [1, 2, 3]) + [(4, 0)])
        told, wrong, number = vault.shares(), vault.wrong(), vault.number()
        kept = copy.deepcopy((told, wrong, number))
        vault.refresh([0, 1])
        vault.drop(1)
        vault.put(1, 0)
        vault.drop(4)
        vault.change([4, 5], [[worth] for _, worth in vault.shares()])
        vault.drop(5)
        self.assertEqual((told, wrong, number), kept)
        self.assertEqual(kept, ([(1, 51), (2, 60), (3, 69), (4, 0)], [4], 42))

    def test_what_is_handed_in_is_neither_changed_nor_kept(self):
        vault = filled(7, 2, [(2, 5), (1, 3)])
        row = [0, 1]
        vault.refresh(row)
        self.assertEqual(row, [0, 1])
        before = state_of(vault)
        spoil(row)
        self.assertEqual(state_of(vault), before)
        places, rows = [6, 3, 4], [[worth, 1, 1] for _, worth in vault.shares()]
        kept = copy.deepcopy((places, rows))
        vault.change(places, rows)
        self.assertEqual((places, rows), kept)
        before = state_of(vault)
        spoil(places)
        spoil(rows)
        self.assertEqual(state_of(vault), before)

    def test_what_was_told_may_be_handed_in_again(self):
        vault = filled(7, 1, [(1, 4), (2, 4), (3, 4), (4, 5), (5, 6)])
        wrong = vault.wrong()
        self.assertEqual(wrong, [4, 5])
        vault.change(wrong, [[worth] for _, worth in vault.shares()])
        self.assertEqual([place for place, _ in vault.shares()], [4, 5])
        self.assertEqual(wrong, [4, 5])

    def test_what_is_told_shares_no_list(self):
        vault = filled(7, 1, [(1, 4), (2, 4), (3, 5)])
        found = lists_in([vault.shares(), vault.shares(), vault.wrong(), vault.wrong()])
        self.assertEqual(len({id(each) for each in found}), len(found))

    def test_asked_twice_the_same_is_told(self):
        vault = filled(97, 2, plain_shares(97, [42, 9], [9, 2, 3, 7]) + [(4, 0)])
        first = state_of(vault)
        other = filled(89, 1, [(1, 1), (2, 1), (3, 2)])
        state_of(other)
        for name, method, *handed in (
            ("BadShares", "put", 0, 1), ("Taken", "put", 9, 1), ("NoShare", "drop", 1), ("BadRow", "refresh", [1]),
            ("BadShares", "change", None, None), ("BadRow", "change", [], []),
        ):
            self.assert_refused_and_as_before(name, vault, method, *handed)
        self.assertEqual(state_of(vault), first)


class AlongTheWay(VaultCase):
    """A vault beside what the document's words make of the same calls, over long runs of them."""

    def step(self, chance, vault, shares):
        """One call, and what the shares are behind it."""
        p = vault.prime
        kind = chance.choice(["put", "put", "put", "drop", "refresh", "change", "bad"])
        place, worth = chance.randrange(1, p), chance.randrange(p)
        if kind == "put":
            if place in shares:
                self.assert_refused_and_as_before("Taken", vault, "put", place, worth)
            elif len(shares) == 20:
                self.assert_refused_and_as_before("TooMany", vault, "put", place, worth)
            else:
                self.assertIsNone(vault.put(place, worth))
                return {**shares, place: worth}
        elif kind == "drop":
            if place not in shares:
                self.assert_refused_and_as_before("NoShare", vault, "drop", place)
            else:
                self.assertEqual(vault.drop(place), shares[place])
                return {each: shares[each] for each in shares if each != place}
        elif kind == "refresh":
            row = [0] + some_row(chance, p, chance.randrange(25))
            self.assertIsNone(vault.refresh(row))
            return {each: (shares[each] + plain_worth(p, row, each)) % p for each in shares}
        elif kind == "change":
            places = some_places(chance, p, chance.randrange(min(p, 21)))
            rows = holders_rows(chance, p, list(shares.items()), chance.randrange(1, 6))
            if len(shares) < vault.need:
                self.assert_refused_and_as_before("TooFew", vault, "change", places, rows)
            else:
                self.assertIsNone(vault.change(places, rows))
                self.assertEqual(vault.need, len(rows[0]))
                return dict(plainly_dealt(p, list(shares.items()), places, rows))
        else:
            self.assert_refused_and_as_before("BadShares", vault, "put", place, p)
            self.assert_refused_and_as_before("NoShare", vault, "drop", 0)
            self.assert_refused_and_as_before("BadRow", vault, "refresh", [1])
            self.assert_refused_and_as_before("BadRow", vault, "change", [place], [[worth]] * (len(shares) + 1))
        return shares

    def test_long_runs(self):
        chance = random.Random(77)
        for p in (3, 5, 7, 11, 23, 9973):
            vault, shares = Vault(p, chance.randrange(1, 4)), {}
            for _ in range(250):
                shares = self.step(chance, vault, shares)
                self.assert_keeps(vault, p, vault.need, list(shares.items()))
                asked = told_by(mended, p, vault.need, vault.shares())
                if asked[0] == "told":
                    self.assert_tells(vault, asked[1][0][0], asked[1][1])
                else:
                    self.assertEqual((told_by(vault.number), told_by(vault.wrong)), (asked, asked))


if __name__ == "__main__":
    unittest.main()
