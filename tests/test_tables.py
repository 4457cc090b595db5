"""Promise [5]: tables, and promise [1] for them."""

import itertools
import random
import unittest

from helpers import (
    assert_no_prime_first, assert_refused, assert_rests, assert_stands_alone, assert_told_again, no_lists, no_rests,
    no_rows, rows_of, some_row,
)

from partshare.tables import solved


def sums(p, lines, answer):
    """For each line, the sum of the products of line and answer."""
    return [sum(thing * often for thing, often in zip(line, answer)) % p for line in lines]


def mixed(p, lines, mix, places):
    """In each place, the sum of the lines, each times its rest in the mix."""
    return [sum(line[at] * often for line, often in zip(lines, mix)) % p for at in range(places)]


def all_answers(p, lines, wanted):
    """Every answer, in rising order."""
    places = len(lines[0]) if lines else 0
    return [each for each in rows_of(p, places) if sums(p, lines, each) == wanted]


def tables_of(p, many, places):
    """Every table of so many lines of so many places, with all that may be wanted."""
    for things in itertools.product(range(p), repeat=many * (places + 1)):
        width = places + 1
        rows = [list(things[at:at + width]) for at in range(0, len(things), width)]
        yield [row[:-1] for row in rows], [row[-1] for row in rows]


def led_table(chance, p, many, heads, places):
    """A table whose least answer is known, and that answer.

    At each head one line has 1 and the others 0, and to its right that line has noughts; the lines, and what is
    wanted of them, are then mixed among each other so that they can be told back, and sums of them are added.
    """
    rows = []
    answer = [0] * places
    for head in heads:
        line = [0 if at in heads else chance.randrange(p) for at in range(head)]
        answer[head] = chance.randrange(p)
        rows.append(line + [1] + [0] * (places - head - 1) + [answer[head]])
    for _ in range(3 * many):
        if len(rows) > 1:
            one, other = chance.sample(range(len(rows)), 2)
            often = chance.randrange(p)
            rows[one] = [(left + often * right) % p for left, right in zip(rows[one], rows[other])]
    while len(rows) < many:
        mix = [chance.randrange(p) for _ in rows]
        rows.append(mixed(p, rows, mix, places + 1))
    chance.shuffle(rows)
    return [row[:-1] for row in rows], [row[-1] for row in rows], answer


class TableCase(unittest.TestCase):
    def assert_solved(self, p, lines, wanted, text):
        """What is told has this text and is right; whether an answer is the least one is not asked here."""
        told = solved(p, lines, wanted)
        self.assertIs(type(told), tuple)
        self.assertEqual(len(told), 2)
        self.assertIs(type(told[0]), str)
        self.assertEqual(told[0], text)
        places = len(lines[0]) if lines else 0
        if text == "none":
            assert_rests(self, p, told[1], len(lines))
            self.assertEqual(mixed(p, lines, told[1], places), [0] * places)
            self.assertNotEqual(sums(p, [wanted], told[1]), [0])
        else:
            assert_rests(self, p, told[1], places)
            self.assertEqual(sums(p, lines, told[1]), wanted)
        return told[1]

    def assert_as_gone_through(self, p, lines, wanted):
        """What is told is what all possible answers, gone through one by one, say."""
        answers = all_answers(p, lines, wanted)
        text = "none" if answers == [] else "one" if len(answers) == 1 else "many"
        told = self.assert_solved(p, lines, wanted, text)
        if answers:
            self.assertEqual(told, answers[0])


class Solved(TableCase):
    def test_worked_out_by_hand(self):
        self.assertEqual(solved(7, [[1, 1], [1, 6]], [5, 1]), ("one", [3, 2]))
        self.assertEqual(solved(7, [[2]], [1]), ("one", [4]))
        self.assertEqual(solved(7, [[0, 1], [1, 0]], [5, 1]), ("one", [1, 5]))
        self.assertEqual(solved(9973, [[9972]], [1]), ("one", [9972]))

    def test_the_least_of_many_by_hand(self):
        self.assertEqual(solved(7, [[1, 1, 1]], [3]), ("many", [0, 0, 3]))
        self.assertEqual(solved(7, [[2, 1, 0]], [3]), ("many", [0, 3, 0]))
        self.assertEqual(solved(7, [[2, 0, 0]], [3]), ("many", [5, 0, 0]))
        self.assertEqual(solved(7, [[1, 2, 3], [1, 2, 4]], [1, 2]), ("many", [0, 6, 1]))
        self.assertEqual(solved(5, [[1, 0, 3], [0, 0, 2]], [4, 0]), ("many", [4, 0, 0]))

    def test_none_by_hand(self):
        for lines, wanted in (([[1, 2], [2, 4]], [1, 3]), ([[0, 0]], [4]), ([[1], [1]], [1, 2])):
            self.assert_solved(7, lines, wanted, "none")
        self.assert_solved(7, [[1, 1], [1, 2], [2, 3]], [1, 1, 3], "none")

    def test_no_lines(self):
        for p in (3, 7, 9973):
            self.assertEqual(solved(p, [], []), ("one", []))

    def test_lines_of_no_places(self):
        for many in (1, 2, 30):
            self.assertEqual(solved(7, [[] for _ in range(many)], [0] * many), ("one", []))
            for at in {0, many // 2, many - 1}:
                wanted = [0] * many
                wanted[at] = 5
                self.assert_solved(7, [[] for _ in range(many)], wanted, "none")
        self.assert_solved(7, [[], [], []], [1, 2, 4], "none")

    def test_lines_of_noughts(self):
        for many, places in ((1, 1), (1, 3), (3, 1), (4, 4), (30, 30), (1, 30), (30, 1)):
            lines = [[0] * places for _ in range(many)]
            self.assertEqual(solved(5, lines, [0] * many), ("many", [0] * places))
            self.assert_solved(5, lines, [0] * (many - 1) + [3], "none")
            self.assert_solved(5, lines, [1] + [0] * (many - 1), "none")
            self.assert_solved(5, lines, [4] * many, "none")

    def test_a_line_of_noughts_among_others(self):
        self.assertEqual(solved(7, [[0, 0], [1, 2], [0, 0], [1, 3]], [0, 5, 0, 6]), ("one", [3, 1]))
        self.assert_solved(7, [[0, 0], [1, 2], [0, 0], [1, 3]], [0, 5, 1, 6], "none")
        self.assertEqual(solved(7, [[0, 0], [1, 2]], [0, 6]), ("many", [0, 3]))

    def test_lines_that_are_sums_of_others(self):
        self.assertEqual(solved(7, [[1, 2], [3, 4], [4, 6]], [5, 4, 2]), ("one", [1, 2]))
        self.assert_solved(7, [[1, 2], [3, 4], [4, 6]], [5, 4, 3], "none")
        self.assertEqual(solved(7, [[1, 2], [1, 2], [1, 2]], [3, 3, 3]), ("many", [0, 5]))
        self.assert_solved(7, [[1, 2], [1, 2], [1, 2]], [3, 3, 4], "none")

    def test_every_small_table(self):
        for p, many, places in ((3, 1, 1), (3, 1, 2), (3, 1, 3), (3, 2, 1), (3, 2, 2), (3, 3, 1), (5, 1, 1), (5, 1, 2)):
            for lines, wanted in tables_of(p, many, places):
                self.assert_as_gone_through(p, lines, wanted)

    def test_some_tables_gone_through(self):
        chance = random.Random(11)
        shapes = [(3, 2, 4), (3, 3, 3), (3, 4, 3), (3, 3, 5), (3, 6, 2), (5, 2, 3), (5, 3, 3), (5, 4, 2), (7, 2, 3)]
        for p, many, places in shapes:
            for _ in range(60):
                lines = [some_row(chance, p, places) for _ in range(many)]
                self.assert_as_gone_through(p, lines, some_row(chance, p, many))
                answer = some_row(chance, p, places)
                self.assert_as_gone_through(p, lines, sums(p, lines, answer))

    def test_the_least_answer_of_greater_tables(self):
        chance = random.Random(12)
        for p in (3, 7, 101, 9973):
            for many, places in ((1, 30), (5, 7), (10, 30), (30, 10), (29, 30), (30, 30), (30, 29), (12, 12)):
                for led in {0, 1, min(many, places) // 2, min(many, places) - 1, min(many, places)}:
                    heads = sorted(chance.sample(range(places), led))
                    lines, wanted, answer = led_table(chance, p, many, heads, places)
                    text = "one" if led == places else "many"
                    self.assertEqual(self.assert_solved(p, lines, wanted, text), answer)

    def test_none_of_greater_tables(self):
        chance = random.Random(13)
        for p in (3, 9973):
            for many, places in ((30, 30), (30, 5), (5, 30), (2, 30), (12, 12)):
                for led in {1, min(many - 1, places)}:
                    heads = sorted(chance.sample(range(places), led))
                    lines, wanted, _ = led_table(chance, p, many - 1, heads, places)
                    mix = [chance.randrange(1, p) for _ in lines]
                    lines.append(mixed(p, lines, mix, places))
                    wanted.append((sums(p, [wanted], mix)[0] + chance.randrange(1, p)) % p)
                    self.assert_solved(p, lines, wanted, "none")

    def test_noughts_ahead_of_all_else(self):
        lines = [[0] * (29 - at) + [1] * (at + 1) for at in range(30)]
        self.assertEqual(solved(9973, lines, [5] * 30), ("one", [0] * 29 + [5]))
        self.assertEqual(solved(3, lines[:29], [2] * 29), ("many", [0] * 29 + [2]))

    def test_lines_that_are_one_and_the_same_list(self):
        line = [1, 2, 3]
        self.assertEqual(solved(7, [line, line], [4, 4]), ("many", [0, 0, 6]))
        self.assertEqual(line, [1, 2, 3])
        square = [1]
        self.assertEqual(solved(7, [square], square), ("one", [1]))
        self.assertEqual(square, [1])


class Refused(unittest.TestCase):
    def test_lines_that_are_no_list(self):
        for thing in no_lists() + ["", (), ([1],), ((1,),), {0: [1]}, "1", range(1), iter([[1]])]:
            assert_refused(self, "BadTable", solved, 7, thing, [])
            assert_refused(self, "BadTable", solved, 7, thing, [1])

    def test_more_than_30_lines(self):
        for many in (31, 32, 1000):
            assert_refused(self, "BadTable", solved, 7, [[] for _ in range(many)], [0] * many)
            assert_refused(self, "BadTable", solved, 7, [[1] for _ in range(many)], [0] * many)
        assert_refused(self, "BadTable", solved, 7, [[1] for _ in range(31)], [0] * 30)

    def test_lines_of_unlike_lengths(self):
        for lines in ([[1], []], [[], [1]], [[1, 2], [1]], [[1], [1, 2]], [[1], [1], [1, 2]], [[1], [1, 2], [1]]):
            assert_refused(self, "BadTable", solved, 7, lines, [0] * len(lines))

    def test_a_line_that_is_no_list(self):
        for thing in no_lists() + [1, (1,), (1, 2), "12", range(1, 3), {1: 1}]:
            assert_refused(self, "BadTable", solved, 7, [thing], [0])
            assert_refused(self, "BadTable", solved, 7, [thing, [1, 2]], [0, 0])
            assert_refused(self, "BadTable", solved, 7, [[1, 2], thing], [0, 0])
        endless = [[1]]
        endless.append(endless)
        assert_refused(self, "BadTable", solved, 7, endless, [0, 0])

    def test_a_line_of_more_than_30(self):
        for places in (31, 60, 1000):
            assert_refused(self, "BadTable", solved, 7, [[1] * places], [0])
            assert_refused(self, "BadTable", solved, 7, [[1] * places] * 3, [0] * 3)
            assert_refused(self, "BadTable", solved, 7, [[1] * 30, [1] * places], [0, 0])
        self.assertEqual(solved(7, [[1] * 30], [0]), ("many", [0] * 30))

    def test_a_thing_in_a_line_that_is_no_rest(self):
        for p in (3, 7, 9973):
            for thing in no_rests(p):
                assert_refused(self, "BadTable", solved, p, [[thing]], [0])
                assert_refused(self, "BadTable", solved, p, [[1, 2], [thing, 1]], [0, 0])
                assert_refused(self, "BadTable", solved, p, [[1, thing], [1, 2]], [0, 0])
                assert_refused(self, "BadTable", solved, p, [[1] * 30] * 29 + [[1] * 29 + [thing]], [0] * 30)

    def test_wanted_that_is_no_list_of_rests(self):
        for thing in no_rows(7):
            for lines in ([], [[]], [[1]], [[1], [2]], [[1, 2], [3, 4], [5, 6]]):
                assert_refused(self, "BadTable", solved, 7, lines, thing)

    def test_wanted_of_another_length(self):
        for many in range(5):
            for length in range(7):
                if many != length:
                    assert_refused(self, "BadTable", solved, 7, [[1, 2] for _ in range(many)], [0] * length)
        assert_refused(self, "BadTable", solved, 7, [[1]] * 30, [0] * 31)
        assert_refused(self, "BadTable", solved, 7, [[1]] * 30, [0] * 29)

    def test_wanted_with_what_is_no_rest(self):
        for p in (3, 7, 9973):
            for thing in no_rests(p):
                assert_refused(self, "BadTable", solved, p, [[1]], [thing])
                assert_refused(self, "BadTable", solved, p, [[1], [1]], [1, thing])
                assert_refused(self, "BadTable", solved, p, [[0], [0]], [thing, 0])

    def test_no_prime_ahead_of_all(self):
        assert_no_prime_first(self, solved, [[1]], [1])
        assert_no_prime_first(self, solved, [], [])
        assert_refused(self, "NoPrime", solved, 9, [[9]], [1])


class StandsAlone(unittest.TestCase):
    CASES = [
        ([], []), ([[]], [0]), ([[]], [1]), ([[1, 2], [1, 3]], [1, 2]), ([[1, 2]], [1]), ([[0, 0]], [0]),
        ([[0, 0]], [1]), ([[1, 2], [1, 2]], [1, 2]), ([[1]], [1]), ([[1, 0], [0, 1]], [3, 4]),
    ]

    def test_nothing_is_shared(self):
        for lines, wanted in self.CASES:
            assert_stands_alone(self, solved, 7, [list(line) for line in lines], list(wanted))

    def test_the_same_is_told_with_other_questions_in_between(self):
        questions = [(solved, 7, lines, wanted) for lines, wanted in self.CASES]
        questions += [(solved, 5, lines, wanted) for lines, wanted in self.CASES]
        assert_told_again(self, questions)
        self.assertEqual(solved(5, [[1, 2]], [1]), ("many", [0, 3]))
        self.assertEqual(solved(7, [[1, 2]], [1]), ("many", [0, 4]))

    def test_what_was_refused_is_not_changed(self):
        lines, wanted = [[1, 2], [3, 7]], [1, 2]
        assert_refused(self, "BadTable", solved, 7, lines, wanted)
        self.assertEqual((lines, wanted), ([[1, 2], [3, 7]], [1, 2]))


if __name__ == "__main__":
    unittest.main()
