"""[22]: lots, their rows and totals, their sequences, and who overdraws in them."""

import unittest
from itertools import permutations

from pursesapart import lots
from pursesapart.errors import BadBank, BadLot, BadSequence, BadTrust
from pursesapart.payments import is_right
from pursesapart.trust import Trust
from tests.helpers import BAD_BANKS, BAD_TRUSTS, SMALL, THREE, chain, check_errors, odd_values, pay
from tests.webs import grow, grow_lot

BANKS = (((3, 2), 4, 1), ((2, 1, 3), 7, 2), ((4, 0, 1, 2), 1, 0))


def bad_lots(trust, lot):
    """What is no lot, made out of a lot of two payments or more, each with the one ahead as a cause."""
    names = [lot[0], lot[-1]]
    junk = trust.name("junk")
    return odd_values() + [
        list(lot), lot[::-1], lot + lot[-1:], lot[:1] + lot, lot[1:], lot[-1:], lot[0], names, (junk,), lot + (junk,),
        lot + (("name", trust.size()),), lot + (None,), (list(lot[0]),) + lot[1:], (lot,), lot + (True,), {lot[0]: True},
    ]


class Lots(unittest.TestCase):
    def setUp(self):
        self.trust = Trust()
        self.x = pay(self.trust, 0, 1, 1, 4, None, None, None)
        self.y = pay(self.trust, 1, 1, 2, 3, self.x, None, None)
        self.z = pay(self.trust, 2, 1, 2, 4, self.x, None, None)

    def test_example_by_hand(self):
        lot = (self.x, self.y)
        self.assertIs(True, lots.is_right_lot(self.trust, THREE, lot))
        self.assertEqual((1, 1, 3), lots.totals(self.trust, THREE, lot))
        self.assertIs(False, lots.is_sequence(self.trust, THREE, lot, (self.y, self.x)))
        self.assertIs(True, lots.is_sequence(self.trust, THREE, lot, [self.x, self.y]))

    def test_the_empty_lot(self):
        self.assertIs(True, lots.is_lot(self.trust, THREE, ()))
        self.assertIs(True, lots.is_right_lot(self.trust, THREE, ()))
        self.assertEqual((0, 0, 0), lots.row_of(self.trust, THREE, ()))
        self.assertEqual((None, None, None), lots.lasts_of(self.trust, THREE, ()))
        self.assertEqual((5, 0, 0), lots.totals(self.trust, THREE, ()))
        self.assertIs(True, lots.is_sequence(self.trust, THREE, (), []))
        self.assertIs(True, lots.is_sequence(self.trust, THREE, (), ()))
        self.assertEqual([(5, 0, 0)], lots.purses_along(self.trust, THREE, (), []))
        self.assertIsNone(lots.overdrawing(self.trust, THREE, ()))

    def test_no_lots(self):
        lot = (self.x, self.y)
        self.assertTrue(lots.is_lot(self.trust, THREE, lot))
        rival = pay(self.trust, 1, 1, 0, 3, self.x, None, None)
        blind = pay(self.trust, 1, 1, 0, 3, None, None, None)
        bent = pay(self.trust, 1, 3, 0, 1, self.x, self.y, None)
        outer = self.trust.name(("pay", 1, 2, 0, 1, (self.x, "x", None)))
        late = pay(self.trust, 0, 2, 0, 1, self.x, blind, None)
        more = [lot + (rival,), (self.x, rival, self.y), (blind, rival), (self.x, bent), lot + (bent,), (outer,),
                lot + (outer,), (self.x, late), lot + (blind,)]
        for value in bad_lots(self.trust, lot) + more:
            with self.subTest(value=value):
                self.assertIs(False, lots.is_lot(self.trust, THREE, value))
                self.assertIs(False, lots.is_right_lot(self.trust, THREE, value))
        for value in ((self.x, rival), (self.x,), (blind,), (self.x, blind), (self.x, blind, late)):
            self.assertIs(True, lots.is_lot(self.trust, THREE, value), value)

    def test_true_is_no_number_in_a_name(self):
        trust = Trust()
        names = [pay(trust, 0, 1, 1, 1, None, None), pay(trust, 1, 1, 1, 1, None, None)]
        self.assertEqual([("name", 0), ("name", 1)], names)
        self.assertTrue(lots.is_lot(trust, SMALL, tuple(names)))
        for value in ((("name", False), ("name", 1)), (("name", 0), ("name", True)), (("name", False),)):
            self.assertIs(False, lots.is_lot(trust, SMALL, value))

    def test_lots_that_are_not_right(self):
        for value in ((self.x, self.z), (self.x, self.y, self.z)):
            self.assertIs(True, lots.is_lot(self.trust, THREE, value))
            self.assertIs(False, lots.is_right_lot(self.trust, THREE, value))

    def test_a_lot_hangs_on_the_bank(self):
        lot = (self.x, self.y)
        for _ in range(2):
            self.assertFalse(lots.is_lot(self.trust, SMALL, lot))
            self.assertTrue(lots.is_right_lot(self.trust, THREE, lot))
            self.assertTrue(lots.is_lot(self.trust, ((3, 0, 0), 4, 1), lot))
            self.assertFalse(lots.is_right_lot(self.trust, ((3, 0, 0), 4, 1), lot))

    def test_rows_lasts_and_totals(self):
        u = pay(self.trust, 0, 2, 0, 1, self.x, self.y, None)
        v = pay(self.trust, 0, 3, 2, 1, u, self.y, None)
        lot = (self.x, self.y, self.z, u, v)
        self.assertEqual((3, 1, 1), lots.row_of(self.trust, THREE, lot))
        self.assertEqual((v, self.y, self.z), lots.lasts_of(self.trust, THREE, lot))
        self.assertEqual((0, 1, 4), lots.totals(self.trust, THREE, lot))
        self.assertEqual((2, 1, 0), lots.row_of(self.trust, THREE, (self.x, self.y, u)))
        self.assertEqual((u, self.y, None), lots.lasts_of(self.trust, THREE, (self.x, self.y, u)))
        self.assertEqual((0, 0, 1), lots.row_of(self.trust, THREE, (pay(self.trust, 2, 1, 2, 4, None, None, None),)))

    def test_the_last_has_the_greatest_number_whatever_its_name(self):
        for name in (self.x, self.y):
            self.assertEqual(name, lots.lasts_of(self.trust, THREE, (self.x, self.y))[0 if name == self.x else 1])

    def test_totals_may_be_below_nothing(self):
        self.assertEqual((1, 4, 0), lots.totals(self.trust, THREE, (self.x, self.z)))
        poor = pay(self.trust, 2, 1, 0, 7, None, None, None)
        self.assertEqual((12, 0, -7), lots.totals(self.trust, THREE, (poor,)))

    def test_errors_in_sequence(self):
        lot = (self.x, self.y)
        bad = bad_lots(self.trust, lot)
        front = [("trust", self.trust, BadTrust, BAD_TRUSTS), ("bank", THREE, BadBank, BAD_BANKS)]
        for function in (lots.row_of, lots.lasts_of, lots.totals, lots.overdrawing):
            check_errors(self, function, front + [("lot", lot, BadLot, bad)])
        for function in (lots.is_lot, lots.is_right_lot):
            check_errors(self, function, front + [("value", lot, None, [])])
        check_errors(self, lots.is_sequence, front + [("lot", lot, BadLot, bad), ("value", list(lot), None, [])])
        rows = odd_values() + [(), [], [self.x], [self.y, self.x], [self.x, self.x], [self.x, self.y, self.y]]
        check_errors(self, lots.purses_along, front + [
            ("lot", lot, BadLot, bad), ("sequence", list(lot), BadSequence, rows)])

    def test_four_hundred_each_above_all_others(self):
        trust = Trust()
        bank = ((50,) * 8, 4, 1)
        lot = tuple(chain(trust, bank, 400))
        self.assertTrue(lots.is_right_lot(trust, bank, lot))
        self.assertEqual((50,) * 8, lots.row_of(trust, bank, lot))
        self.assertEqual(lot[-8:], lots.lasts_of(trust, bank, lot))
        self.assertEqual((50,) * 8, lots.totals(trust, bank, lot))
        self.assertIsNone(lots.overdrawing(trust, bank, lot))
        self.assertEqual(401, len(lots.purses_along(trust, bank, lot, lot)))
        self.assertFalse(lots.is_lot(trust, bank, lot[:17] + lot[18:]))
        self.assertFalse(lots.is_sequence(trust, bank, lot, lot[:300] + (lot[301], lot[300]) + lot[302:]))
        poor = ((0,) + (50,) * 7, 4, 1)
        sequence, index = lots.overdrawing(trust, poor, lot)
        self.assertEqual((list(lot), 0), (sequence, index))


class Sequences(unittest.TestCase):
    def setUp(self):
        self.trust = Trust()
        self.bank = ((5, 5, 0), 4, 1)
        self.x = pay(self.trust, 0, 1, 1, 4, None, None, None)
        self.u = pay(self.trust, 1, 1, 2, 5, None, None, None)
        self.y = pay(self.trust, 0, 2, 2, 1, self.x, None, None)
        self.z = pay(self.trust, 2, 1, 0, 6, self.y, self.u, None)
        self.lot = (self.x, self.u, self.y, self.z)

    def test_all_sequences_and_no_others(self):
        good = []
        for row in permutations(self.lot):
            if lots.is_sequence(self.trust, self.bank, self.lot, list(row)):
                good.append(row)
                self.assertTrue(lots.is_sequence(self.trust, self.bank, self.lot, row))
        x, u, y, z = self.lot
        self.assertEqual([(x, u, y, z), (x, y, u, z), (u, x, y, z)], good)

    def test_no_sequences(self):
        x, u, y, z = self.lot
        other = pay(self.trust, 0, 1, 1, 1, None, None, None)
        bad = odd_values() + [
            (), [], [x, u, y], [u, y, z], [x, u, y, z, z], [x, x, u, y, z], [x, u, y, y], [x, u, y, None],
            [x, u, y, other], [other, u, y, z], [x, u, y, list(z)], [x, u, y, ("name", True)], [x, u, y, [z]],
            {x: 1, u: 2, y: 3, z: 4}, [("name", False), u, y, z], [x, ("name", True), y, z], (x, (u, y), z),
        ]
        self.assertEqual([("name", 0), ("name", 1)], [x, u])
        for value in bad:
            with self.subTest(value=value):
                self.assertIs(False, lots.is_sequence(self.trust, self.bank, self.lot, value))
                with self.assertRaises(BadSequence):
                    lots.purses_along(self.trust, self.bank, self.lot, value)

    def test_purses_along(self):
        x, u, y, z = self.lot
        told = lots.purses_along(self.trust, self.bank, self.lot, [u, x, y, z])
        self.assertEqual([(5, 5, 0), (5, 0, 5), (1, 4, 5), (0, 4, 6), (6, 4, 0)], told)
        self.assertIsInstance(told, list)
        told.append("mine")
        again = lots.purses_along(self.trust, self.bank, self.lot, (x, y, u, z))
        self.assertEqual([(5, 5, 0), (1, 9, 0), (0, 9, 1), (0, 4, 6), (6, 4, 0)], again)

    def test_what_is_passed_stays(self):
        sequence = list(self.lot)
        lots.is_sequence(self.trust, self.bank, self.lot, sequence)
        lots.purses_along(self.trust, self.bank, self.lot, sequence)
        self.assertEqual(list(self.lot), sequence)

    def test_overdrawing_tells_a_sequence_and_an_index(self):
        poor = pay(self.trust, 1, 2, 0, 1, None, self.u, None)
        lot = (self.x, self.u, self.y, poor)
        sequence, index = lots.overdrawing(self.trust, self.bank, lot)
        self.assertIsInstance(sequence, list)
        self.assertTrue(lots.is_sequence(self.trust, self.bank, lot, sequence))
        self.assertEqual(poor, sequence[index])
        held = lots.purses_along(self.trust, self.bank, lot, sequence)[index]
        self.assertLess(held[1], 1)
        sequence.clear()
        self.assertEqual(4, len(lots.overdrawing(self.trust, self.bank, lot)[0]))


class AgainstPlainWords(unittest.TestCase):
    def test_lots_among_bent_webs(self):
        for seed in range(120):
            bank = BANKS[seed % 3]
            plain, names = grow(seed, bank, 6, poor=0.2, bent=0.2)
            for value in all_parts(names):
                wanted = plain.is_lot(value)
                self.assertEqual(wanted, lots.is_lot(plain.trust, bank, value))
                right = wanted and all(plain.fault(name) is None for name in value)
                self.assertEqual(right, lots.is_right_lot(plain.trust, bank, value))

    def test_all_sequences_of_small_lots(self):
        wrong = 0
        many = 0
        for seed in range(120):
            bank = BANKS[seed % 3]
            plain, lot = grow_lot(seed, bank, 6, poor=0.2 if seed % 2 else 0)
            trust = plain.trust
            rows = plain.sequences(lot)
            many += len(rows) > 5
            right = all(is_right(trust, bank, name) for name in lot)
            self.assertEqual(right, lots.is_right_lot(trust, bank, lot))
            self.assertEqual(right, not any(plain.overdraws(row) for row in rows))
            for row in rows[:20]:
                self.assertTrue(lots.is_sequence(trust, bank, lot, row))
                along = lots.purses_along(trust, bank, lot, row)
                self.assertEqual(plain.moments(row), along)
                self.assertEqual(lots.totals(trust, bank, lot), along[-1])
                self.assertEqual({sum(bank[0])}, {sum(held) for held in along})
            for row in permutations(lot[:5]):
                self.assertEqual(plain.in_sequence(row), lots.is_sequence(trust, bank, lot[:5], row))
            told = lots.overdrawing(trust, bank, lot)
            self.assertEqual(right, told is None)
            if told is not None:
                wrong += 1
                self.assertIn(tuple(told[0]), rows)
                self.assertIn(told[1], plain.overdraws(told[0]))
            self.assertEqual(tuple(len([name for name in lot if plain.place(name)[0] == purse])
                                   for purse in range(plain.purses)), lots.row_of(trust, bank, lot))
            self.assertEqual(tuple(plain.last(lot, purse) for purse in range(plain.purses)),
                             lots.lasts_of(trust, bank, lot))
        self.assertGreater(wrong, 20)
        self.assertGreater(many, 20)


def all_parts(names):
    """All ascending tuples of some of the names."""
    rows = [()]
    for name in sorted(names):
        rows += [row + (name,) for row in rows]
    return rows


if __name__ == "__main__":
    unittest.main()
