"""Promises [6] and [7], written and read: shares as a text, and promise [1] for it."""

import itertools
import random
import re
import unittest

from helpers import (
    Touchy, assert_no_prime_first, assert_refused, assert_stands_alone, assert_told_again, assert_whole, no_needs,
    no_shares, no_whole_numbers, some_places, told_by,
)

from partshare.notes import read, shown
from partshare.rests import is_prime

# The least that a text must be: what it tells is asked behind it.
FORM = re.compile(r"([1-9][0-9]{0,3}) ([1-9][0-9]?):((?: [1-9][0-9]{0,3}-(?:0|[1-9][0-9]{0,3}))*)")


def plainly_read(text):
    """What the text says, worked out in another way than the program does it; None where it is no text of some."""
    found = FORM.fullmatch(text)
    if not found:
        return None
    p, need = int(found[1]), int(found[2])
    shares = [tuple(int(part) for part in word.split("-")) for word in found[3].split()]
    places = [place for place, _ in shares]
    fits = all(0 < place < p and worth < p for place, worth in shares)
    if not is_prime(p) or need > 20 or len(shares) > 20 or len(set(places)) < len(places) or not fits:
        return None
    return p, need, shares


def some_notes(chance):
    """Some primes, needs and shares."""
    told = []
    for p in (3, 5, 7, 11, 97, 101, 997, 1009, 9973):
        for need in (1, 2, 9, 10, 19, 20):
            for many in {0, 1, 2, min(p - 1, 20)}:
                places = some_places(chance, p, many)
                told.append((p, need, [(place, chance.choice([0, p - 1, chance.randrange(p)])) for place in places]))
    return told


class Shown(unittest.TestCase):
    def test_as_in_the_document(self):
        self.assertEqual(shown(97, 3, [(1, 5), (4, 96)]), "97 3: 1-5 4-96")

    def test_without_shares_it_ends_with_the_colon(self):
        self.assertEqual(shown(97, 3, []), "97 3:")
        self.assertEqual(shown(3, 1, []), "3 1:")
        self.assertEqual(shown(9973, 20, []), "9973 20:")

    def test_the_order_of_the_shares_stays(self):
        for some in itertools.permutations([(1, 0), (2, 6), (3, 3), (6, 1)]):
            text = "7 2:" + "".join(" " + str(place) + "-" + str(worth) for place, worth in some)
            self.assertEqual(shown(7, 2, list(some)), text)

    def test_20_shares(self):
        shares = [(place, 9973 - place) for place in range(9972, 9952, -1)]
        text = "9973 20: 9972-1 9971-2 9970-3 9969-4 9968-5 9967-6 9966-7 9965-8 9964-9 9963-10 9962-11 9961-12"
        text += " 9960-13 9959-14 9958-15 9957-16 9956-17 9955-18 9954-19 9953-20"
        self.assertEqual(shown(9973, 20, shares), text)

    def test_it_is_a_text(self):
        self.assertIs(type(shown(97, 3, [(1, 5)])), str)

    def test_fewer_shares_than_the_need_and_shares_of_no_row(self):
        self.assertEqual(shown(7, 20, [(1, 1)]), "7 20: 1-1")
        self.assertEqual(shown(7, 1, [(1, 1), (2, 2), (3, 4)]), "7 1: 1-1 2-2 3-4")

    def test_no_need_ahead_of_no_shares(self):
        for thing in no_needs():
            for shares in ([], [(1, 1)], None, [(0, 0)]):
                assert_refused(self, "BadNeed", shown, 7, thing, shares)

    def test_what_are_no_shares(self):
        for p in (3, 7, 9973):
            for thing in no_shares(p):
                assert_refused(self, "BadShares", shown, p, 1, thing)

    def test_no_prime_ahead_of_all(self):
        assert_no_prime_first(self, shown, 3, [(1, 1)])


class Read(unittest.TestCase):
    def assert_read(self, text, p, need, shares):
        told = read(text)
        self.assertIs(type(told), tuple)
        self.assertEqual(told, (p, need, shares))
        self.assertIs(type(told[2]), list)
        for share in told[2]:
            self.assertIs(type(share), tuple)
            assert_whole(self, share)
        assert_whole(self, told[:2])

    def assert_as_plainly_read(self, text):
        plain = plainly_read(text)
        if plain is None:
            assert_refused(self, "NoText", read, text)
        else:
            self.assert_read(text, *plain)
            self.assertEqual(shown(*plain), text)
        return plain is not None

    def test_by_hand(self):
        self.assert_read("97 3: 1-5 4-96", 97, 3, [(1, 5), (4, 96)])
        self.assert_read("97 3: 4-96 1-5", 97, 3, [(4, 96), (1, 5)])
        self.assert_read("97 3:", 97, 3, [])
        self.assert_read("3 20: 2-0", 3, 20, [(2, 0)])
        self.assert_read("9973 1: 9972-9972 10-100 1000-0", 9973, 1, [(9972, 9972), (10, 100), (1000, 0)])

    def test_each_text_that_is_shown(self):
        for p, need, shares in some_notes(random.Random(61)):
            self.assert_read(shown(p, need, shares), p, need, shares)

    def test_every_need_and_every_share_of_small_primes(self):
        for p in (3, 5, 7):
            for need in range(1, 21):
                for place in range(1, p):
                    for worth in range(p):
                        self.assert_read(shown(p, need, [(place, worth)]), p, need, [(place, worth)])

    def test_what_is_no_text(self):
        things = [thing for thing in no_whole_numbers() if not isinstance(thing, str)]
        things += [5, 97, -1, 10 ** 5000, ["97 3:"], ("97 3:",), b"97 3:", bytearray(b"97 3:"), {"97 3:": 1}]
        things += [Touchy(), (97, 3, []), [97, 3, []], str, iter("97 3:")]
        for thing in things:
            assert_refused(self, "NoText", read, thing)

    def test_texts_of_another_form(self):
        for text in (
            "", " ", ":", "-", "97", "97 3", "97:", "97 :", " 3:", "97 3: ", "97 3: 1", "97 3: 1-", "97 3: -5", "97 3: -",
            "97 3: 1-5-", "97 3: 1-5-6", "97 3: 1--5", "97 3:1-5", "97 3 : 1-5", "97 3 1-5", "97 3:: 1-5", "97 3: 1-5:",
            "97 3: 1-5, 4-96", "97 3: 1-54-96", "97 3: 1 -5", "97 3: 1- 5", "97 3: (1, 5)", "97,3: 1-5", "97, 3: 1-5",
            "97-3: 1-5", "97 3; 1-5", "97 3: 1_5", "97 3: 1=5", "97 3: 1\u20135", "p 3: 1-5", "97 need:", "97 3: a-b",
            "97 3 4: 1-5", "97: 3 1-5", "97 3:\n1-5", "97\t3: 1-5", "97 3:\t1-5", "97\u00a03: 1-5", "97 3:\u20031-5",
            "0x61 3: 1-5", "97.0 3: 1-5", "9e1 3:", "97 3.: 1-5", "None 3:", "97 True:", "97 3: True-5",
        ):
            with self.subTest(text=text):
                assert_refused(self, "NoText", read, text)

    def test_a_sign_left_out_put_in_or_exchanged_anywhere(self):
        signs = "0123456789 :-+_,.;\n\r\tx\u0663\u00b2\u0967\uff13\u00a0\u2007\x00\x1f\x85\ud800"
        fit = 0
        for text in ("97 3: 1-5 4-96", "97 3:", "7 20: 6-0", "9973 1: 9972-9972 1000-10", "3 2: 1-2 2-1"):
            for at in range(len(text) + 1):
                changed = [text[:at] + text[at + 1:]]
                changed += [text[:at] + sign + text[at:] for sign in signs]
                changed += [text[:at] + sign + text[at + 1:] for sign in signs]
                fit += sum(self.assert_as_plainly_read(each) for each in changed)
        # Some of them are texts of others, as a worth of 6 in the place of 5 is.
        self.assertGreater(fit, 50)

    def test_two_signs_change_places(self):
        for text in ("97 3: 1-5 4-96", "7 20: 6-0 1-3", "13 2: 1-12 3-10"):
            for one, other in itertools.combinations(range(len(text)), 2):
                signs = list(text)
                signs[one], signs[other] = signs[other], signs[one]
                self.assert_as_plainly_read("".join(signs))

    def test_texts_cut_at_both_ends(self):
        text = "97 3: 1-5 4-96"
        for start in range(len(text) + 1):
            for end in range(start, len(text) + 1):
                self.assert_as_plainly_read(text[start:end])

    def test_all_short_texts_of_some_signs(self):
        fit = 0
        for length in range(7):
            for signs in itertools.product("3 :-1", repeat=length):
                fit += self.assert_as_plainly_read("".join(signs))
        # With 3, 11, 13 and 31 go the needs 1, 3, 11 and 13; with 113, 131, 311, 313 and 331 there is room for 1 and 3.
        self.assertEqual(fit, 4 * 4 + 5 * 2)

    def test_all_short_texts_behind_the_colon(self):
        fit = 0
        for length in range(7):
            for signs in itertools.product(" -012", repeat=length):
                fit += self.assert_as_plainly_read("3 1:" + "".join(signs))
        # None, or one share: a place of 1 or 2, a worth of 0 to 2. Two of them take eight signs.
        self.assertEqual(fit, 7)

    def test_blanks_and_line_feeds(self):
        for text in ("97 3: 1-5 4-96", "97 3:"):
            for blank in (" ", "  ", "\n", "\r", "\r\n", "\t", "\u00a0", "\x0b", "\x0c", "\x1c", "\u2028", "\ufeff"):
                assert_refused(self, "NoText", read, blank + text)
                assert_refused(self, "NoText", read, text + blank)
                for at in range(len(text)):
                    assert_refused(self, "NoText", read, text[:at] + blank + blank + text[at:])
            assert_refused(self, "NoText", read, text.replace(" ", "  "))

    def test_noughts_and_signs_ahead_of_a_number(self):
        for at in range(6):
            for ahead in ("0", "00", "000", "0" * 5000, "+", "-", " ", "_", "0_", "0x", "0b", "0o", "\u0660"):
                words = ["97", "3", "1", "5", "4", "96"]
                words[at] = ahead + words[at]
                assert_refused(self, "NoText", read, "{} {}: {}-{} {}-{}".format(*words))

    def test_noughts_alone(self):
        self.assert_read("97 3: 1-0", 97, 3, [(1, 0)])
        for text in ("97 3: 1-00", "97 3: 1-000", "97 3: 1--0", "97 3: 1-+0", "97 3: 0-0", "97 0:", "0 3:", "97 00:"):
            assert_refused(self, "NoText", read, text)

    def test_signs_between_figures(self):
        for text in ("9_7 3:", "97 1_0:", "97 3: 1_0-5", "97 3: 1-1_0", "9,7 3:", "9 7 3:", "97 3: 1-1'0", "9.7 3:"):
            assert_refused(self, "NoText", read, text)

    def test_figures_of_other_scripts(self):
        for nought in (0x660, 0x6F0, 0x966, 0x9E6, 0xE50, 0x1D7CE, 0xFF10):
            table = {ord("0") + each: chr(nought + each) for each in range(10)}
            words = ["97", "3", "1", "5", "4", "96"]
            for at in range(6):
                other = list(words)
                other[at] = words[at].translate(table)
                self.assertEqual(int(other[at]), int(words[at]))
                assert_refused(self, "NoText", read, "{} {}: {}-{} {}-{}".format(*other))
            assert_refused(self, "NoText", read, "97 3: 1-5 4-96".translate(table))
        for figure in "\u00b2\u00b9\u2460\u2075\u2082\u4e09\u216b\u00bd\u0bf0":
            for form in ("{} 3:", "97 {}:", "97 3: {}-5", "97 3: 1-{}", "9{} 3:", "97 1{}:", "97 3: 1{}-5", "97 3: 1-1{}"):
                assert_refused(self, "NoText", read, form.format(figure))

    def test_very_long_numbers(self):
        for many in (5, 10, 100, 4300, 4301, 5000, 200000):
            for form in ("{} 3:", "97 {}:", "97 3: {}-5", "97 3: 1-{}"):
                assert_refused(self, "NoText", read, form.format("9" * many))
                assert_refused(self, "NoText", read, form.format("1" + "0" * many))
                assert_refused(self, "NoText", read, form.format("0" * many))
                assert_refused(self, "NoText", read, form.format("0" * many + "3"))

    def test_what_is_no_prime(self):
        for p in (0, 1, 2, 4, 9, 91, 96, 98, 9972, 9974, 9999, 10007, 99991):
            assert_refused(self, "NoText", read, str(p) + " 1:")
            assert_refused(self, "NoText", read, str(p) + " 1: 1-1")

    def test_what_is_no_need(self):
        for need in (0, 21, 22, 30, 99, 100, 1000, 10 ** 20):
            assert_refused(self, "NoText", read, "97 " + str(need) + ":")
        for need in range(1, 21):
            self.assert_read("97 " + str(need) + ":", 97, need, [])

    def test_what_is_no_share(self):
        for p in (3, 97, 9973):
            for share in ("0-1", "0-0", f"{p}-1", f"1-{p}", f"{p + 1}-1", f"1-{p + 1}", "1-99999", "99999-1", f"{p}-{p}"):
                assert_refused(self, "NoText", read, f"{p} 1: " + share)
                assert_refused(self, "NoText", read, f"{p} 1: 2-1 " + share)
                assert_refused(self, "NoText", read, f"{p} 1: {share} 2-1")

    def test_a_place_twice(self):
        for text in ("97 3: 1-5 1-5", "97 3: 1-5 1-6", "97 3: 4-1 1-5 4-0", "97 3: 1-5 4-1 4-1"):
            assert_refused(self, "NoText", read, text)

    def test_20_shares_and_more(self):
        for many in (19, 20, 21, 22, 96, 5000):
            text = "9973 2:" + "".join(f" {place}-{place + 1}" for place in range(1, many + 1))
            if many > 20:
                assert_refused(self, "NoText", read, text)
            else:
                self.assert_read(text, 9973, 2, [(place, place + 1) for place in range(1, many + 1)])


class StandsAlone(unittest.TestCase):
    def test_nothing_is_shared(self):
        for shares in ([], [(1, 2)], [(3, 4), (1, 5), (2, 6)]):
            assert_stands_alone(self, shown, 7, 2, list(shares))
        for text in ("7 2:", "7 2: 1-2", "7 2: 3-4 1-5 2-6"):
            assert_stands_alone(self, read, text)

    def test_the_same_is_told_with_other_questions_in_between(self):
        questions = [
            (shown, 7, 2, [(1, 2)]), (shown, 7, 3, [(1, 2)]), (shown, 11, 2, [(1, 2)]), (shown, 7, 2, []),
            (read, "7 2: 1-2"), (read, "7 3: 1-2"), (read, "11 2: 1-2"), (read, "7 2:"), (told_by, read, "7 2: 1-7"),
            (told_by, shown, 9, 2, []), (told_by, shown, 7, 0, []), (told_by, shown, 7, 2, [(1, 7)]),
        ]
        assert_told_again(self, questions)

    def test_what_was_refused_is_not_changed(self):
        shares = [(2, 5), (1, 7)]
        assert_refused(self, "BadShares", shown, 7, 2, shares)
        self.assertEqual(shares, [(2, 5), (1, 7)])


if __name__ == "__main__":
    unittest.main()
