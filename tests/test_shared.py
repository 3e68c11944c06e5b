"""[110], [111]: charters of shared purses, and splits of their owners."""

import random
import unittest
from itertools import combinations

from pursesapart.errors import (BadBank, BadCharter, BadLeast, BadMany, BadOwner, BadOwners, BadPayment, BadProposer,
                                BadProposers, BadPurse, BadSplit, BadTrust)
from pursesapart.shared import (counting_charter, deciders, is_charter, is_signed, is_split, owner_of, payers, signed_by,
                                signed_heads, signs, stoppers, torn_split)
from pursesapart.trust import Trust
from tests.bends import bends
from tests.helpers import BAD_BANKS, BAD_PURSES, BAD_TRUSTS, LONG, SMALL, THREE, check_errors, odd_values, pay
from tests.plain_shared import (all_charters, hitting, plain_can_pay, plain_has_lot, plain_heads, plain_payers,
                                plain_splits, some_charter, subsets)

TWO_OF_THREE = ((0, 1), (0, 2), (1, 2))
CHARTER = (3, (0, 1), TWO_OF_THREE)
BAD_CHARTERS = [
    None, True, 0, "charter", (), [], {}, list(CHARTER), CHARTER[:2], CHARTER + (0,), (3, [0, 1], TWO_OF_THREE),
    (3, (0, 1), list(TWO_OF_THREE)), (0, (), ()), (0, (0,), ((0,),)), (7, (0,), ((0,),)), (True, (0,), ((0,),)),
    (-1, (0,), ((0,),)), ("3", (0,), ((0,),)), (None, (0,), ((0,),)), (LONG, (0,), ((0,),)), (3, (), TWO_OF_THREE),
    (3, (0, 1), ()), (3, (1, 0), TWO_OF_THREE), (3, (0, 0), TWO_OF_THREE), (3, (3,), TWO_OF_THREE),
    (3, (-1,), TWO_OF_THREE), (3, (True,), TWO_OF_THREE), (3, (False, 1), TWO_OF_THREE), (3, (None,), TWO_OF_THREE),
    (3, 0, TWO_OF_THREE), (3, (0,), ((),)), (3, (0,), ((0,), ())), (3, (0,), ((), (0,))), (3, (0,), ((1, 0),)),
    (3, (0,), ((0, 0),)), (3, (0,), ((0, 3),)), (3, (0,), ((-1,),)), (3, (0,), ((False,),)), (3, (0,), ((True,),)),
    (3, (0,), ([0],)), (3, (0,), (0,)), (3, (0,), ((0, 1), (0, 1))), (3, (0,), ((0, 2), (0, 1))),
    (3, (0,), ((0,), (0, 1))), (3, (0,), ((0, 1), (1,))), (3, (0,), ((0, 1), (0, 1, 2))), (3, (0,), ((1, 2), (2,))),
    (3, (0,), {0: (0,)}), (3, (0,), "ab"), (3, (0,), (None,)), (3, (0,), ((0, None),)), (6, (0,), ((6,),)), Trust(),
]
BAD_OWNERS = [None, 0, True, {}, "ab", [3], [-1], [True], [0, False], [None], ["0"], [[0]], (0, 3), LONG, [LONG], Trust()]


class Shared(unittest.TestCase):
    def test_examples_by_hand(self):
        self.assertEqual(CHARTER, counting_charter(3, (0, 1), 2))
        self.assertEqual(TWO_OF_THREE, payers(CHARTER))
        self.assertEqual(TWO_OF_THREE, stoppers(CHARTER))
        self.assertIsNone(torn_split(CHARTER))
        self.assertEqual((2,), deciders(CHARTER))
        self.assertEqual((0, 1, 2), torn_split((3, (0, 1, 2), TWO_OF_THREE)))

    def test_charters(self):
        for charter in [CHARTER, (1, (0,), ((0,),)), (6, (0, 5), ((0,), (1,), (2, 3, 4, 5))), (6, (5,), ((5,),)),
                        (2, (0, 1), ((0,), (1,))), (4, (3,), ((0, 1), (0, 2), (1, 2)))]:
            self.assertIs(True, is_charter(charter))
        for value in BAD_CHARTERS + odd_values():
            with self.subTest(value=value):
                self.assertIs(False, is_charter(value))

    def test_all_small_charters_are_told_from_all_others(self):
        for many in (1, 2, 3):
            good = set(all_charters(many))
            lots = subsets(range(many))
            for proposers in lots:
                for size in range(4):
                    for row in combinations(lots, size):
                        for some in (tuple(sorted(row)), row):
                            value = (many, proposers, some)
                            self.assertEqual(value in good, is_charter(value))
        self.assertEqual([1, 12, 126], [len(all_charters(many)) for many in (1, 2, 3)])

    def test_bent_charters(self):
        good = set(all_charters(3)) | set(all_charters(4))
        counts = [0, 0]
        for value in bends((3, (0, 2), ((0, 1), (2,))), [None, 0, 1, 2, 3, 4, (0,), True, -1]):
            expected = in_good(value, good)
            self.assertEqual(expected, is_charter(value), value)
            counts[expected] += 1
        self.assertGreater(min(counts), 3)

    def test_signs(self):
        self.assertTrue(signs(CHARTER, 0, [2, 0]))
        self.assertTrue(signs(CHARTER, 0, (0, 0, 1)))
        self.assertFalse(signs(CHARTER, 0, [1, 2]))
        self.assertFalse(signs(CHARTER, 0, [0]))
        self.assertFalse(signs(CHARTER, 0, []))
        for charter in all_charters(3):
            for proposer in charter[1]:
                for owners in subsets(range(3)):
                    expected = proposer in owners and plain_has_lot(charter, owners)
                    self.assertIs(expected, signs(charter, proposer, list(owners[::-1]) * 2))

    def test_payers_and_stoppers(self):
        dice = random.Random(110)
        charters = [charter for many in (1, 2, 3) for charter in all_charters(many)]
        charters += [some_charter(dice, many) for many in (4, 5, 6) for _ in range(60)]
        for charter in charters:
            paying, stopping = payers(charter), stoppers(charter)
            self.assertEqual(plain_payers(charter), paying)
            self.assertEqual(hitting(charter[0], paying), stopping)
            self.assertEqual(hitting(charter[0], stopping), paying)
            for owners in subsets(range(charter[0])):
                others = set(range(charter[0])) - set(owners)
                can = any(set(one) <= set(owners) for one in paying)
                self.assertEqual(plain_can_pay(charter, owners), can)
                self.assertNotEqual(can, any(set(one) <= others for one in stopping))

    def test_proposer_and_lot_may_be_apart(self):
        self.assertEqual(((0, 2), (1, 2)), payers((4, (2,), ((0,), (1,)))))
        self.assertEqual(((0, 1), (2,)), stoppers((4, (2,), ((0,), (1,)))))
        self.assertEqual(((0,),), payers((1, (0,), ((0,),))))

    def test_counting_charters(self):
        self.assertEqual((6, (0, 5), tuple(combinations(range(6), 4))), counting_charter(6, (0, 5), 4))
        for many in range(1, 7):
            for least in range(1, many + 1):
                charter = counting_charter(many, (many - 1,), least)
                self.assertTrue(is_charter(charter))
                self.assertEqual((many, (many - 1,), tuple(combinations(range(many), least))), charter)

    def test_owner_of(self):
        self.assertEqual([("owner", at) for at in (1, 3, 5, 7, 9, 11)], [owner_of(SMALL, 1, owner) for owner in range(6)])
        self.assertEqual(("owner", 2), owner_of(THREE, 2, 0))
        self.assertEqual(("owner", 3), owner_of(THREE, 0, 1))
        every = [owner_of(((1,) * 8, 4, 1), purse, owner) for purse in range(8) for owner in range(6)]
        self.assertEqual(48, len(set(every)))

    def test_signed_by(self):
        trust = Trust()
        payment = pay(trust, 1, 1, 0, 2, None, None, None)
        self.assertEqual((), signed_by(trust, THREE, CHARTER, payment))
        for number, told in [(0, ()), (2, ()), (7, (2,)), (10, (2,)), (3, (2,)), (1, (0, 2)), (4, (0, 1, 2))]:
            trust.seal(("owner", number), payment)
            self.assertEqual(told, signed_by(trust, THREE, CHARTER, payment))
            self.assertIs(len(told) > 1, is_signed(trust, THREE, CHARTER, payment))
        trust.seal(("member", 4), payment)
        self.assertEqual((0, 1, 2, 3), signed_by(trust, THREE, (6, (5,), ((0,),)), payment))
        self.assertIs(False, is_signed(trust, THREE, (6, (5,), ((0,),)), payment))
        self.assertIs(True, is_signed(trust, THREE, (6, (3,), ((0, 1),)), payment))

    def test_signed_payments_need_not_be_right(self):
        trust = Trust()
        payment = pay(trust, 0, 7, 0, 99, None, None)
        for owner in (0, 1):
            trust.seal(owner_of(SMALL, 0, owner), payment)
        self.assertEqual((0, 1), signed_by(trust, SMALL, CHARTER, payment))
        self.assertTrue(is_signed(trust, SMALL, CHARTER, payment))

    def test_splits(self):
        for charter in [(3, (0, 1), TWO_OF_THREE), (3, (0, 1, 2), TWO_OF_THREE), (4, (1, 3), ((0, 1),)), (2, (1,), ((0,),))]:
            good = plain_splits(charter)
            for many in range(charter[0] + 2):
                for split in all_rows(range(charter[0] + 1), many):
                    self.assertEqual(split in good, is_split(charter, split))
            for value in odd_values() + [list(good[0]), good[0] + (0,), good[0][:-1], (True,) * charter[0],
                                         (1, True, 1), (None,) * 3, (0, False, 0), [0, 0, 0], ((0,), 0, 0)]:
                self.assertIs(False, is_split(charter, value))

    def test_signed_heads(self):
        self.assertEqual((0,), signed_heads(CHARTER, (0, 1, 0)))
        self.assertEqual((1,), signed_heads(CHARTER, (0, 1, 1)))
        self.assertEqual((), signed_heads((3, (0, 1, 2), TWO_OF_THREE), (0, 1, 2)))
        self.assertEqual((0, 2), signed_heads((4, (0, 2), ((0, 1), (2, 3))), (0, 0, 2, 2)))
        self.assertEqual((0, 1), signed_heads((2, (0, 1), ((0,), (1,))), (0, 1)))

    def test_splits_against_the_words(self):
        """torn_split, deciders and the HEART of splits, over all small charters and many greater ones."""
        dice = random.Random(111)
        charters = [charter for many in (1, 2, 3) for charter in all_charters(many)]
        charters += dice.sample(all_charters(4), 500) + [some_charter(dice, 5) for _ in range(60)]
        charters += [some_charter(dice, 6) for _ in range(8)] + [counting_charter(6, tuple(range(6)), 4)]
        counts = {}
        for charter in charters:
            splits = plain_splits(charter)
            heads = {split: plain_heads(charter, split) for split in splits}
            for split in splits[:20]:
                self.assertEqual(heads[split], signed_heads(charter, split))
            torn = [split for split in splits if len(heads[split]) != 1]
            self.assertEqual(torn[0] if torn else None, torn_split(charter))
            expected = tuple(owner for owner in range(charter[0])
                             if all(heads[split] == (split[owner],) for split in splits))
            self.assertEqual(expected, deciders(charter))
            self.check_heart(charter, torn, expected)
            key = min(len(charter[1]), 3), not torn
            counts[key] = counts.get(key, 0) + 1
        self.assertGreater(min(counts.values()), 5, counts)
        self.assertEqual({(1, True), (2, True), (2, False), (3, True), (3, False)}, set(counts))

    def check_heart(self, charter, torn, deciding):
        owners, proposers = set(range(charter[0])), charter[1]
        if len(proposers) >= 2:
            self.assertLessEqual(len(deciding), 1)
        if len(proposers) >= 3:
            one = [owner for owner in owners if all(plain_has_lot(charter, {owner, other}) for other in proposers)]
            self.assertEqual(bool(torn), not deciding)
            if not torn:
                self.assertIn(deciding[0], one)
        elif len(proposers) == 2:
            parts = [set(some) | {proposers[0]} for some in subsets(sorted(owners - set(proposers)))]
            just = all(plain_has_lot(charter, part) != plain_has_lot(charter, owners - part) for part in parts)
            self.assertEqual(just, not torn)
        else:
            self.assertEqual([], torn)

    def test_counting_charters_that_are_never_torn(self):
        for many in range(1, 7):
            for proposers in subsets(range(many))[1:]:
                for least in range(1, many + 1):
                    expected = len(proposers) == 1 or len(proposers) == 2 and 2 * least == many + 1
                    self.assertEqual(expected, torn_split(counting_charter(many, proposers, least)) is None)

    def test_errors(self):
        charter = ("charter", CHARTER, BadCharter, BAD_CHARTERS)
        bad_proposers = [None, True, False, 2, 3, -1, "0", (0,), [0], LONG, Trust()]
        check_errors(self, signs, [charter, ("proposer", 1, BadProposer, bad_proposers),
                                   ("owners", [2, 0], BadOwners, BAD_OWNERS)])
        for function in (payers, stoppers, torn_split, deciders):
            check_errors(self, function, [charter])
        check_errors(self, is_split, [charter, ("value", 0, None, [])])
        bad_splits = odd_values() + [(0, 1), (0, 1, 2), (1, 0, 0), (0, 1, 0, 0), [0, 1, 0], (0, 0, 1), (False, 1, 0)]
        check_errors(self, signed_heads, [charter, ("split", (0, 1, 0), BadSplit, bad_splits)])
        check_errors(self, counting_charter, [
            ("many", 3, BadMany, [0, 7, -1, True, None, "3", (3,), LONG]),
            ("proposers", (0, 1), BadProposers, [None, 0, (), [0, 1], (1, 0), (0, 0), (3,), (True,), (-1,), (None,), "0"]),
            ("least", 2, BadLeast, [0, 4, -1, True, None, "2", (2,), LONG])])
        bank = ("bank", SMALL, BadBank, BAD_BANKS)
        check_errors(self, owner_of, [bank, ("purse", 1, BadPurse, BAD_PURSES),
                                      ("owner", 5, BadOwner, [6, -1, True, False, None, "0", (0,), LONG])])
        trust = Trust()
        payment = pay(trust, 0, 1, 1, 9, None, None)
        rows = [("trust", trust, BadTrust, BAD_TRUSTS), bank, charter,
                ("payment", payment, BadPayment, [value for value in odd_values() if value != payment] + [
                    trust.name("pay"), trust.name(("pay", 0, 1, 1, 9, (None,))), [payment], ("name", trust.size())])]
        check_errors(self, signed_by, rows)
        check_errors(self, is_signed, rows)

    def test_owners_of_a_small_charter(self):
        """An owner that the bank can have, and the charter does not."""
        with self.assertRaises(BadOwners):
            signs((2, (0,), ((0, 1),)), 0, [0, 2])
        with self.assertRaises(BadProposer):
            signs((2, (0,), ((0, 1),)), 1, [0])


def in_good(value, good):
    """Whether the value is one of the charters, True never being 1."""
    try:
        return value in good and not any(item is True for item in flat(value))
    except TypeError:
        return False


def flat(value):
    """All items of nested tuples."""
    if not isinstance(value, tuple):
        return [value]
    return [one for item in value for one in flat(item)]


def all_rows(items, many):
    """All tuples of so many of the items."""
    rows = [()]
    for _ in range(many):
        rows = [row + (item,) for row in rows for item in items]
    return rows


if __name__ == "__main__":
    unittest.main()
