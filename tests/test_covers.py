"""[24]: covers of an amount, and the content of the next payment."""

import unittest

from pursesapart import lots
from pursesapart.errors import BadAmount, BadBank, BadLot, BadPurse, BadTrust, Poor
from pursesapart.payments import has_form, is_right, past_of, payment_of
from pursesapart.trust import Trust
from tests.helpers import BAD_AMOUNTS, BAD_BANKS, BAD_PURSES, BAD_TRUSTS, THREE, chain, check_errors, odd_values, pay
from tests.webs import grow, grow_lot

BANKS = (((3, 2), 4, 1), ((2, 1, 3), 7, 2), ((4, 0, 1, 2), 1, 0), ((2, 2, 2), 4, 1))
PURSES = [bad for bad in BAD_PURSES if bad != 2 or isinstance(bad, bool)] + [3]


def poor_of(test, function, *arguments):
    """What Poor tells."""
    with test.assertRaises(Poor) as caught:
        function(*arguments)
    return caught.exception.has


class Covers(unittest.TestCase):
    def setUp(self):
        self.trust = Trust()
        self.bank = ((5, 4, 1), 4, 1)
        self.a = pay(self.trust, 0, 1, 2, 2, None, None, None)
        self.b = pay(self.trust, 1, 1, 2, 3, None, None, None)
        self.c = pay(self.trust, 0, 2, 1, 1, self.a, None, None)
        self.d = pay(self.trust, 1, 2, 2, 1, None, self.b, None)
        self.lot = (self.a, self.b, self.c, self.d)

    def covers(self, purse, amount, lot=None):
        """All covers, by is_cover, among all parts of the lot."""
        lot = self.lot if lot is None else lot
        rows = [()]
        for name in lot:
            rows += [row + (name,) for row in rows]
        return sorted([row for row in rows if lots.is_cover(self.trust, self.bank, lot, purse, amount, row)])

    def test_covers_by_hand(self):
        a, b, d = self.a, self.b, self.d
        self.assertEqual([()], self.covers(2, 1))
        self.assertEqual([(a,), (b,)], self.covers(2, 2))
        self.assertEqual([(a,), (b,)], self.covers(2, 3))
        self.assertEqual([(b,)], self.covers(2, 4))
        self.assertEqual([(a, b), (b, d)], self.covers(2, 5))
        self.assertEqual([(a, b)], self.covers(2, 6))
        self.assertEqual([(a, b, d)], self.covers(2, 7))
        self.assertEqual([], self.covers(2, 8))

    def test_all_payments_of_the_purse_are_in_a_cover(self):
        a, b, c, d = self.lot
        self.assertEqual([(a, c)], self.covers(0, 1))
        self.assertEqual([(a, c)], self.covers(0, 2))
        self.assertEqual([], self.covers(0, 3))
        self.assertEqual([(a, b, c, d)], self.covers(1, 1))
        e = pay(self.trust, 2, 1, 0, 1, None, None, None)
        f = pay(self.trust, 2, 2, 0, 6, a, d, e)
        lot = (a, b, d, e, f)
        self.assertEqual(0, lots.totals(self.trust, self.bank, lot)[2])
        self.assertEqual([], self.covers(2, 1, lot))
        self.assertEqual([(a, b, e)], self.covers(2, 5, (a, b, d, e)))
        self.assertEqual([(b, e)], self.covers(2, 3, (a, b, d, e)))

    def test_payments_to_the_own_purse_stay(self):
        own = pay(self.trust, 2, 1, 2, 1, None, None, None)
        lot = (self.a, own)
        self.assertEqual([(own,)], self.covers(2, 1, lot))
        self.assertEqual([lot], self.covers(2, 3, lot))

    def test_cover_of(self):
        for amount in range(1, 8):
            found = lots.cover_of(self.trust, self.bank, self.lot, 2, amount)
            self.assertIn(found, self.covers(2, amount))
        self.assertEqual(7, poor_of(self, lots.cover_of, self.trust, self.bank, self.lot, 2, 8))
        self.assertEqual(2, poor_of(self, lots.cover_of, self.trust, self.bank, self.lot, 0, 3))
        self.assertEqual((), lots.cover_of(self.trust, self.bank, (), 0, 5))
        self.assertEqual(5, poor_of(self, lots.cover_of, self.trust, self.bank, (), 0, 6))

    def test_no_covers(self):
        a, b, c, d = self.lot
        other = pay(self.trust, 1, 1, 2, 4, None, None, None)
        bad = odd_values() + [
            (), (a, b, d), (b, a), [a, b], (a, c), (a, b, c), (b, d), (a, b, b), (a, d), (c, d), (a, other), (other,),
            (a, b, other), (("name", False), ("name", True)), (a, list(b)), a, (b,), (a,),
        ]
        self.assertTrue(lots.is_cover(self.trust, self.bank, self.lot, 2, 6, (a, b)))
        for value in bad:
            with self.subTest(value=value):
                self.assertIs(False, lots.is_cover(self.trust, self.bank, self.lot, 2, 6, value))

    def test_errors_in_sequence(self):
        poor = pay(self.trust, 2, 1, 2, 99, None, None, None)
        bad = odd_values() + [list(self.lot), self.lot[::-1], self.lot[1:], (poor,), self.lot + (poor,), (self.d,)]
        front = [("trust", self.trust, BadTrust, BAD_TRUSTS), ("bank", self.bank, BadBank, BAD_BANKS),
                 ("lot", self.lot, BadLot, bad)]
        purse = ("purse", 2, BadPurse, PURSES)
        amount = ("amount", 1, BadAmount, BAD_AMOUNTS)
        check_errors(self, lots.is_cover, front + [purse, amount, ("value", (), None, [])])
        check_errors(self, lots.cover_of, front + [purse, amount])
        check_errors(self, lots.content_for, front + [purse, ("to", 0, BadPurse, PURSES), amount])

    def test_poor_comes_last(self):
        for function, more in ((lots.cover_of, ()), (lots.content_for, (0,))):
            with self.assertRaises(BadAmount):
                function(self.trust, self.bank, self.lot, 2, *more, True)
            with self.assertRaises(BadPurse):
                function(self.trust, self.bank, self.lot, 3, *more, 99)

    def test_four_hundred_each_above_all_others(self):
        trust = Trust()
        bank = ((50,) * 8, 4, 1)
        names = tuple(chain(trust, bank, 400))
        for purse in (0, 7):
            found = lots.cover_of(trust, bank, names, purse, 50)
            self.assertTrue(lots.is_cover(trust, bank, names, purse, 50, found))
            self.assertEqual(50, poor_of(self, lots.cover_of, trust, bank, names, purse, 51))
        self.assertEqual(names[:393], lots.cover_of(trust, bank, names, 0, 49))
        self.assertEqual(names, lots.cover_of(trust, bank, names, 0, 50))


class Contents(unittest.TestCase):
    def setUp(self):
        self.trust = Trust()
        self.x = pay(self.trust, 0, 1, 1, 4, None, None, None)
        self.y = pay(self.trust, 1, 1, 2, 3, self.x, None, None)

    def content(self, lot, purse, to, amount):
        """The content of the next payment in the bank THREE."""
        return lots.content_for(self.trust, THREE, lot, purse, to, amount)

    def test_by_hand(self):
        lot = (self.x, self.y)
        self.assertEqual(("pay", 0, 1, 2, 5, (None, None, None)), self.content((), 0, 2, 5))
        self.assertEqual(("pay", 0, 2, 0, 1, (self.x, None, None)), self.content((self.x,), 0, 0, 1))
        self.assertEqual(("pay", 2, 1, 1, 3, (self.x, self.y, None)), self.content(lot, 2, 1, 3))
        self.assertEqual(("pay", 1, 2, 0, 1, (self.x, self.y, None)), self.content(lot, 1, 0, 1))
        self.assertEqual(self.trust.content(self.y), self.content((self.x,), 1, 2, 3))

    def test_poor(self):
        lot = (self.x, self.y)
        for purse, has in ((0, 1), (1, 1), (2, 3)):
            self.assertEqual(has, poor_of(self, self.content, lot, purse, 0, has + 1))
        self.assertEqual(0, poor_of(self, self.content, (), 1, 0, 1))

    def test_nothing_is_named(self):
        size = self.trust.size()
        self.content((self.x,), 1, 1, 2)
        self.assertEqual(size, self.trust.size())


class AgainstPlainWords(unittest.TestCase):
    def test_all_parts_of_small_lots(self):
        several = 0
        for seed in range(120):
            bank = BANKS[seed % 4]
            plain, lot = grow_lot(seed, bank, 7) if seed < 40 else grow_lot(seed, bank, 8, seeing=0.1, most=2)
            every = plain.lots_of(lot)
            for purse in range(plain.purses):
                for amount in range(1, sum(bank[0]) + 2):
                    several += self.check_covers(plain, bank, lot, every, purse, amount) > 1
        self.assertGreater(several, 40)

    def check_covers(self, plain, bank, lot, every, purse, amount):
        """Holds is_cover and cover_of against all lots out of the lot; how many covers there are."""
        trust = plain.trust
        own = {name for name in lot if plain.place(name)[0] == purse}
        enough = [some for some in every if own <= set(some) and plain.purses_behind(some)[purse] >= amount]
        covers = [some for some in enough if not any(set(other) < set(some) for other in enough)]
        for some in every:
            self.assertEqual(some in covers, lots.is_cover(trust, bank, lot, purse, amount, some))
        has = plain.purses_behind(lot)[purse]
        self.assertEqual(has >= amount, bool(covers))
        if has < amount:
            self.assertEqual(has, poor_of(self, lots.cover_of, trust, bank, lot, purse, amount))
        else:
            self.assertIn(lots.cover_of(trust, bank, lot, purse, amount), covers)
        return len(covers)

    def test_right_exactly_if_it_is_what_the_past_makes_of_it(self):
        right = 0
        for seed in range(150):
            bank = BANKS[seed % 4]
            plain, names = grow(seed, bank, 8, poor=0.15, bent=0.15)
            for name in names:
                if plain.parts(name) is not None:
                    right += self.check_content(plain, bank, name)
        self.assertGreater(right, 300)

    def check_content(self, plain, bank, name):
        """Whether the payment is right, by its past and by what content_for makes of it."""
        trust = plain.trust
        below = past_of(trust, bank, name)[:-1]
        purse, _, to, amount, _ = payment_of(trust, bank, name)
        made = False
        if lots.is_right_lot(trust, bank, below):
            try:
                made = lots.content_for(trust, bank, below, purse, to, amount) == trust.content(name)
            except Poor as error:
                self.assertLess(error.has, amount)
        self.assertEqual(is_right(trust, bank, name), made)
        self.assertTrue(has_form(trust, bank, name) or not made)
        return made


if __name__ == "__main__":
    unittest.main()
