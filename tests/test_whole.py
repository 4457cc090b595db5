"""What the document promises over the whole program: its names, its refusals and their order, and promise [1]."""

import copy
import inspect
import random
import unittest

from helpers import ERROR_NAMES, assert_refused, lists_in, no_whole_numbers, plain_shares, spoil, told_by, with_wrong

from partshare import anew, errors, mending, notes, parting, rests, rows, tables, vault

ROW60 = [1] * 60

# Each function, what it takes and does not refuse, and its refusals in their order: the name of the error, and
# what is then handed in, by its place among what is handed in.
CALLS = [
    (rests.turned, (7, 3), [("NoPrime", {0: 9}), ("BadRest", {1: 7}), ("BadRest", {1: 0})]),
    (rows.worth, (7, [1, 2], 3), [("NoPrime", {0: 9}), ("BadRow", {1: [7]}), ("BadRest", {2: 7})]),
    (rows.added, (7, [1], [2]), [("NoPrime", {0: 9}), ("BadRow", {1: [7]}), ("BadRow", {2: [7]})]),
    (rows.times, (7, [1], [2]), [
        ("NoPrime", {0: 9}), ("BadRow", {1: [7]}), ("BadRow", {2: [7]}), ("TooMany", {1: ROW60, 2: [1, 1]}),
    ]),
    (rows.parted, (7, [1], [2]), [
        ("NoPrime", {0: 9}), ("BadRow", {1: [7]}), ("BadRow", {2: [7]}), ("BadRow", {2: []}), ("BadRow", {2: [1, 0]}),
    ]),
    (tables.solved, (7, [[1, 2]], [3]), [
        ("NoPrime", {0: 9}), ("BadTable", {1: [[1], [1, 2]]}), ("BadTable", {2: [7]}), ("BadTable", {2: [1, 2]}),
    ]),
    (parting.shares_of, (7, [1, 2], [3, 1]), [("NoPrime", {0: 9}), ("BadRow", {1: [7]}), ("BadShares", {2: [1, 1]})]),
    (parting.through, (7, [(1, 3), (2, 5)]), [("NoPrime", {0: 9}), ("BadShares", {1: [(0, 3)]})]),
    (parting.number_of, (7, 2, [(1, 3), (2, 5), (3, 0)]), [
        ("NoPrime", {0: 9}), ("BadNeed", {1: 21}), ("BadShares", {2: [(1, 3), (1, 3)]}), ("TooFew", {2: [(1, 3)]}),
        ("Unlike", {2: [(1, 3), (2, 5), (3, 1)]}),
    ]),
    (parting.ways, (7, 3, [(1, 3)], 4), [
        ("NoPrime", {0: 9}), ("BadNeed", {1: 0}), ("BadShares", {2: [(7, 3)]}), ("BadRest", {3: 7}),
    ]),
    (parting.nth, (7, 3, [(1, 3)], 4, 6), [
        ("NoPrime", {0: 9}), ("BadNeed", {1: 0}), ("BadShares", {2: [(7, 3)]}), ("BadRest", {3: -1}), ("NoWay", {4: 7}),
    ]),
    (anew.weights, (7, [1, 2]), [("NoPrime", {0: 9}), ("BadShares", {1: [1, 0]})]),
    (anew.gathered, (7, [1, 2], [3, 4]), [("NoPrime", {0: 9}), ("BadShares", {1: [1, 0]}), ("BadRow", {2: [3]})]),
    (anew.refreshed, (7, [(1, 3)], [0, 1]), [
        ("NoPrime", {0: 9}), ("BadShares", {1: [(1, 7)]}), ("BadRow", {2: [7]}), ("BadRow", {2: [1]}),
    ]),
    (mending.mended, (7, 2, [(1, 3), (2, 5), (3, 0), (4, 4)]), [
        ("NoPrime", {0: 9}), ("BadNeed", {1: 21}), ("BadShares", {2: [(1, 3), (1, 3)]}), ("TooFew", {2: [(1, 3)]}),
        ("Unlike", {2: [(1, 3), (2, 5), (3, 1)]}),
    ]),
    (vault.Vault, (7, 2), [("NoPrime", {0: 9}), ("BadNeed", {1: 0})]),
    (notes.shown, (7, 2, [(1, 3)]), [("NoPrime", {0: 9}), ("BadNeed", {1: 0}), ("BadShares", {2: [(1, 7)]})]),
    (notes.read, ("7 2: 1-3",), [("NoText", {0: "7 2: 1-7"})]),
]


def new_vault(need=2):
    """A vault with four shares of [1, 2], the one at 4 wrong."""
    made = vault.Vault(7, need)
    for place, worth in [(1, 3), (2, 5), (3, 0), (4, 4)]:
        made.put(place, worth)
    return made


def full_vault():
    """A vault that has 20 shares, and need of as many."""
    made = vault.Vault(23, 20)
    for place in range(1, 21):
        made.put(place, 5)
    return made


def few_vault():
    """A vault that has fewer shares than its need."""
    made = vault.Vault(7, 3)
    made.put(1, 3)
    return made


# Likewise the methods of a vault: the vault, the method's name, what it takes, and its refusals.
METHODS = [
    (new_vault, "put", (5, 6), [("BadShares", {0: 7}), ("BadShares", {1: 7}), ("Taken", {0: 4})]),
    (full_vault, "put", None, [("BadShares", {0: 21, 1: 23}), ("Taken", {0: 20, 1: 5}), ("TooMany", {0: 21, 1: 5})]),
    (new_vault, "drop", (4,), [("NoShare", {0: 5})]),
    (new_vault, "shares", (), []),
    (new_vault, "number", (), []),
    (new_vault, "wrong", (), []),
    (few_vault, "number", None, [("TooFew", {})]),
    (few_vault, "wrong", None, [("TooFew", {})]),
    (new_vault, "refresh", ([0, 1],), [("BadRow", {0: [7]}), ("BadRow", {0: [1]})]),
    (new_vault, "change", ([1, 6], [[3], [5], [0], [4]]), [
        ("BadShares", {0: [1, 1]}), ("BadRow", {1: [[3], [5], [0]]}), ("BadRow", {1: [[3], [5], [0], [5]]}),
    ]),
    (few_vault, "change", ([1], [[3]]), [("BadShares", {0: [0]}), ("BadRow", {1: [[4]]}), ("TooFew", {})]),
]

SIGNATURES = {
    "rests": {"is_prime": "thing", "turned": "p rest"},
    "rows": {"worth": "p row at", "added": "p one other", "times": "p one other", "parted": "p row other"},
    "tables": {"solved": "p lines wanted"},
    "parting": {
        "shares_of": "p row places", "through": "p shares", "number_of": "p need shares",
        "ways": "p need shares number", "nth": "p need shares number which",
    },
    "anew": {"weights": "p places", "gathered": "p places parts", "refreshed": "p shares row"},
    "mending": {"mended": "p need shares"},
    "vault": {"Vault": "p need"},
    "notes": {"shown": "p need shares", "read": "text"},
}

VAULT_SIGNATURES = {
    "put": "self place worth", "drop": "self place", "shares": "self", "number": "self", "wrong": "self",
    "refresh": "self row", "change": "self places rows",
}

FILES = {
    "rests": rests, "rows": rows, "tables": tables, "parting": parting, "anew": anew, "mending": mending,
    "vault": vault, "notes": notes,
}


def exchanged(handed, others):
    """What is handed in, with others in these places of it; new lists throughout."""
    length = max([len(handed or ())] + [at + 1 for at in others])
    return [copy.deepcopy(others[at] if at in others else handed[at]) for at in range(length)]


class Interface(unittest.TestCase):
    def test_each_name_is_defined_in_its_file_with_its_arguments(self):
        for name, listed in SIGNATURES.items():
            for each, arguments in listed.items():
                thing = getattr(FILES[name], each)
                self.assertEqual(thing.__module__, "partshare." + name)
                self.assertEqual(thing.__name__, each)
                self.assertEqual(list(inspect.signature(thing).parameters), arguments.split())

    def test_each_method_is_defined_in_the_class_itself(self):
        for name, arguments in VAULT_SIGNATURES.items():
            method = vars(vault.Vault)[name]
            self.assertEqual(list(inspect.signature(method).parameters), arguments.split())

    def test_all_is_called_by_names_too(self):
        for function, handed, _ in CALLS:
            names = list(inspect.signature(function).parameters)
            told = function(**dict(zip(names, copy.deepcopy(handed))))
            if function is not vault.Vault:
                self.assertEqual(told, function(*copy.deepcopy(handed)))


class Refusals(unittest.TestCase):
    def test_every_error_is_among_them(self):
        named = {name for _, _, refusals in CALLS for name, _ in refusals}
        named |= {name for _, _, _, refusals in METHODS for name, _ in refusals}
        self.assertEqual(named, set(ERROR_NAMES))

    def test_what_is_right_is_not_refused(self):
        for function, handed, _ in CALLS:
            function(*copy.deepcopy(handed))
        for make, name, handed, refusals in METHODS:
            if handed is not None and ("TooFew", {}) not in refusals:
                getattr(make(), name)(*copy.deepcopy(handed))

    def test_each_is_of_its_class(self):
        for function, handed, refusals in CALLS:
            for name, others in refusals:
                with self.subTest(function=function.__name__, name=name, others=others):
                    assert_refused(self, name, function, *exchanged(handed, others))
        for make, method, handed, refusals in METHODS:
            for name, others in refusals:
                with self.subTest(method=method, name=name, others=others):
                    assert_refused(self, name, getattr(make(), method), *exchanged(handed, others))

    def test_of_two_the_first_is_told(self):
        for function, handed, refusals in CALLS:
            for at, (name, others) in enumerate(refusals):
                for _, later in refusals[at + 1:]:
                    with self.subTest(function=function.__name__, name=name, later=later):
                        assert_refused(self, name, function, *exchanged(handed, {**later, **others}))
        for make, method, handed, refusals in METHODS:
            for at, (name, others) in enumerate(refusals):
                for _, later in refusals[at + 1:]:
                    with self.subTest(method=method, name=name, later=later):
                        assert_refused(self, name, getattr(make(), method), *exchanged(handed, {**later, **others}))

    def test_the_first_is_told_whatever_stands_behind_it(self):
        for function, handed, refusals in CALLS:
            for name, others in refusals:
                if len(others) == 1:
                    behind = max(others) + 1
                    for thing in no_whole_numbers():
                        more = {at: thing for at in range(behind, len(handed))}
                        told = list(exchanged(handed, others))[:behind] + list(more.values())
                        if name not in ("TooFew", "Unlike", "TooMany"):
                            assert_refused(self, name, function, *told)

    def test_a_refusal_can_be_caught_as_any(self):
        for function, handed, refusals in CALLS:
            for _, others in refusals:
                with self.assertRaises(errors.ShareError):
                    function(*exchanged(handed, others))


class StandsAlone(unittest.TestCase):
    def test_what_is_handed_in_is_the_same_behind_each_call(self):
        for function, handed, refusals in CALLS:
            for others in [{}] + [others for _, others in refusals]:
                given = exchanged(handed, others)
                kept, found = copy.deepcopy(given), lists_in(given)
                told_by(function, *given)
                self.assertEqual(given, kept)
                self.assertTrue(all(one is other for one, other in zip(lists_in(given), found)))
        for make, name, handed, refusals in METHODS:
            for others in [{}] + [others for _, others in refusals]:
                if handed is not None or others:
                    given = exchanged(handed, others)
                    kept = copy.deepcopy(given)
                    told_by(getattr(make(), name), *given)
                    self.assertEqual(given, kept)

    def test_what_was_told_stays_and_is_told_again(self):
        """Every function is asked, then all that it told is spoiled, then it is asked again; in several orders."""
        chance = random.Random(81)
        calls = [(function, handed) for function, handed, _ in CALLS if function is not vault.Vault]
        calls += [
            (told_by, (function, *exchanged(handed, others))) for function, handed, refusals in CALLS
            for _, others in refusals
        ]
        kept_vault = new_vault()
        calls += [(kept_vault.shares, ()), (kept_vault.number, ()), (kept_vault.wrong, ())]
        answers = [copy.deepcopy(function(*copy.deepcopy(handed))) for function, handed in calls]
        told = []
        for _ in range(5):
            for at in chance.sample(range(len(calls)), len(calls)):
                function, handed = calls[at]
                given = copy.deepcopy(handed)
                told.append((at, function(*given)))
                spoil(given)
            for at, each in told:
                self.assertEqual(each, answers[at])
            lists = [each for _, thing in told for each in lists_in(thing)]
            self.assertEqual(len({id(each) for each in lists}), len(lists))
            spoiled = [function(*copy.deepcopy(handed)) for function, handed in calls]
            spoil(spoiled)


class AllTogether(unittest.TestCase):
    def test_a_number_goes_through_the_whole_program(self):
        chance = random.Random(82)
        for p in (23, 101, 9973):
            for need in (1, 2, 5, 12):
                number = chance.randrange(p)
                which = chance.randrange(parting.ways(p, need, [], number))
                row = parting.nth(p, need, [], number, which)
                shares = parting.shares_of(p, row, chance.sample(range(1, p), 20))
                self.assertEqual(shares, plain_shares(p, row, [place for place, _ in shares]))
                wrong = [place for place, _ in shares[:(20 - need) // 2]]
                text = notes.shown(p, need, with_wrong(chance, p, shares, wrong))
                read_p, read_need, read_shares = notes.read(text)
                kept = vault.Vault(read_p, read_need)
                for place, worth in read_shares:
                    kept.put(place, worth)
                self.assertEqual((kept.number(), kept.wrong()), (number, sorted(wrong)))
                kept.refresh(rows.times(p, [0, 1], row[1:]))
                self.assertEqual((kept.number(), kept.wrong()), (number, sorted(wrong)))
                for place in wrong:
                    kept.drop(place)
                holders = [[worth, 1, place % p] for place, worth in kept.shares()]
                kept.change([3, 1, 2, 4, 5], holders)
                self.assertEqual((kept.need, kept.number(), kept.wrong()), (3, number, []))
                self.assertEqual(parting.number_of(p, 3, kept.shares()), number)
                self.assertEqual(notes.read(notes.shown(p, 3, kept.shares())), (p, 3, kept.shares()))


if __name__ == "__main__":
    unittest.main()
