"""[23]: clashes between lots, joins, what is common, and the greatest lots."""

import unittest
from itertools import combinations

from pursesapart import lots
from pursesapart.errors import BadBank, BadLot, BadPayments, BadTrust, Clash, TooMany
from pursesapart.trust import Trust
from tests.helpers import BAD_BANKS, BAD_TRUSTS, THREE, chain, check_errors, odd_values, pay
from tests.webs import grow

BANKS = (((3, 2), 4, 1), ((2, 1, 3), 7, 2), ((4, 0, 1, 2), 1, 0))


def clash_of(test, function, *arguments):
    """The pair that Clash tells."""
    with test.assertRaises(Clash) as caught:
        function(*arguments)
    return caught.exception.one, caught.exception.other


class Joins(unittest.TestCase):
    def setUp(self):
        self.trust = Trust()
        self.bank = ((9, 9, 9), 4, 1)
        self.x = pay(self.trust, 0, 1, 1, 1, None, None, None)
        self.y = pay(self.trust, 1, 1, 2, 1, None, None, None)
        self.x2 = pay(self.trust, 0, 1, 1, 2, None, None, None)
        self.y2 = pay(self.trust, 1, 1, 2, 2, None, None, None)
        self.z = pay(self.trust, 2, 1, 0, 1, None, None, None)
        self.u = pay(self.trust, 0, 2, 1, 1, self.x, self.y, None)

    def test_clash_between(self):
        one = (self.x, self.y)
        self.assertIsNone(lots.clash_between(self.trust, self.bank, one, one))
        self.assertIsNone(lots.clash_between(self.trust, self.bank, one, ()))
        self.assertIsNone(lots.clash_between(self.trust, self.bank, (), one))
        self.assertIsNone(lots.clash_between(self.trust, self.bank, one, (self.z,)))
        self.assertIsNone(lots.clash_between(self.trust, self.bank, one, (self.x, self.y, self.u)))
        for other in ((self.x2, self.y2), (self.x2, self.y2, self.z)):
            self.assertEqual((self.x, self.x2), lots.clash_between(self.trust, self.bank, one, other))
            self.assertEqual((self.x2, self.x), lots.clash_between(self.trust, self.bank, other, one))
        self.assertEqual((self.y, self.y2), lots.clash_between(self.trust, self.bank, one, (self.x, self.y2)))
        self.assertEqual((self.y2, self.y), lots.clash_between(self.trust, self.bank, (self.y2,), one))

    def test_the_least_of_one_and_not_of_other(self):
        late = pay(self.trust, 0, 1, 1, 3, None, None, None)
        self.assertEqual((self.y2, self.y), lots.clash_between(self.trust, self.bank, (self.y2, late), (self.x, self.y)))
        self.assertEqual((self.x, late), lots.clash_between(self.trust, self.bank, (self.x, self.y), (self.y2, late)))

    def test_joined_lots(self):
        one = (self.x, self.y)
        for other, joined in (
            ((), one), (one, one), ((self.z,), (self.x, self.y, self.z)),
            ((self.y, self.z), (self.x, self.y, self.z)), ((self.x, self.y, self.u), (self.x, self.y, self.u)),
        ):
            self.assertEqual(joined, lots.joined_lots(self.trust, self.bank, one, other))
            self.assertEqual(joined, lots.joined_lots(self.trust, self.bank, other, one))
        other = (self.x2, self.y2)
        self.assertEqual((self.x, self.x2), clash_of(self, lots.joined_lots, self.trust, self.bank, one, other))
        self.assertEqual((self.x2, self.x), clash_of(self, lots.joined_lots, self.trust, self.bank, other, one))

    def test_common_lot(self):
        for one, other, common in (
            ((), (), ()), ((self.x,), (), ()), ((self.x, self.y), (self.y, self.z), (self.y,)),
            ((self.x, self.y), (self.x, self.y2), (self.x,)), ((self.x, self.y, self.u), (self.x, self.y, self.z),
                                                               (self.x, self.y)),
        ):
            self.assertEqual(common, lots.common_lot(self.trust, self.bank, one, other))
            self.assertEqual(common, lots.common_lot(self.trust, self.bank, other, one))

    def test_lot_of(self):
        self.assertEqual((), lots.lot_of(self.trust, self.bank, []))
        self.assertEqual((), lots.lot_of(self.trust, self.bank, ()))
        whole = (self.x, self.y, self.z, self.u)
        for payments in ([self.u, self.z], [self.z, self.u, self.u, self.x], (self.u, self.z)):
            self.assertEqual(whole, lots.lot_of(self.trust, self.bank, payments))
        payments = [self.y2, self.x2, self.u, self.y2]
        self.assertEqual((self.x, self.x2), clash_of(self, lots.lot_of, self.trust, self.bank, payments))
        self.assertEqual([self.y2, self.x2, self.u, self.y2], payments)
        self.assertEqual((self.y, self.y2), clash_of(self, lots.lot_of, self.trust, self.bank, [self.y2, self.u]))

    def test_lot_of_three_that_clash(self):
        x3 = pay(self.trust, 0, 1, 1, 3, None, None, None)
        payments = [x3, self.y2, self.x2, self.y]
        self.assertEqual((self.y, self.y2), clash_of(self, lots.lot_of, self.trust, self.bank, payments))
        payments = [x3, self.x2, self.x]
        self.assertEqual((self.x, self.x2), clash_of(self, lots.lot_of, self.trust, self.bank, payments))

    def test_payments_need_not_be_right(self):
        poor = pay(self.trust, 2, 1, 0, 99, None, None, None)
        self.assertEqual((poor,), lots.lot_of(self.trust, self.bank, [poor]))
        self.assertEqual([(self.z,), (poor,)], lots.greatest_lots(self.trust, self.bank, [poor, self.z]))

    def test_greatest_lots(self):
        x, y, x2, y2, z, u = self.x, self.y, self.x2, self.y2, self.z, self.u
        for payments, wanted in (
            ([], [()]), ([u], [(x, y, u)]), ([x, x], [(x,)]), ([x2, x], [(x,), (x2,)]),
            ([u, x2], [(x, y, u), (y, x2)]), ([x, x2, y, y2], [(x, y), (x, y2), (y, x2), (x2, y2)]),
            ([u, x2, y2, z], [(x, y, z, u), (x, y2, z), (y, x2, z), (x2, y2, z)]),
        ):
            self.assertEqual(wanted, lots.greatest_lots(self.trust, self.bank, payments))
            self.assertEqual(wanted, lots.greatest_lots(self.trust, self.bank, tuple(payments[::-1])))

    def test_lists_that_are_returned_are_new(self):
        payments = [self.x, self.x2]
        lots.greatest_lots(self.trust, self.bank, payments).append("mine")
        self.assertEqual([(self.x,), (self.x2,)], lots.greatest_lots(self.trust, self.bank, payments))
        self.assertEqual([self.x, self.x2], payments)

    def test_errors_in_sequence(self):
        one, other = (self.x, self.y, self.u), (self.x, self.y)
        front = [("trust", self.trust, BadTrust, BAD_TRUSTS), ("bank", self.bank, BadBank, BAD_BANKS)]
        bad = odd_values() + [[self.x], self.x, (self.y, self.x), (self.u,), (self.x, self.x), (self.x, self.x2)]
        for function in (lots.clash_between, lots.joined_lots, lots.common_lot):
            check_errors(self, function, front + [("one", one, BadLot, bad), ("other", other, BadLot, bad)])
        bent = pay(self.trust, 0, 3, 1, 1, self.x, None, None)
        bad = [value for value in odd_values() if value not in ([], (("name", 0),) * 2)] + [
            self.x, [self.x, None], [self.x, bent], (bent,), [[self.x]], [self.trust.name("junk")],
            [("name", self.trust.size())], {self.x: True}, [("name", False)],
        ]
        for function in (lots.lot_of, lots.greatest_lots):
            check_errors(self, function, front + [("payments", [self.u, self.x], BadPayments, bad)])

    def test_bad_payments_come_ahead_of_too_many_and_clash(self):
        rivals = [pay(self.trust, 0, 1, 1, 1 + at, None, None, None) for at in range(66)]
        with self.assertRaises(BadPayments):
            lots.greatest_lots(self.trust, self.bank, rivals + [None])
        with self.assertRaises(BadPayments):
            lots.lot_of(self.trust, self.bank, rivals + [None])


class Many(unittest.TestCase):
    def test_sixty_four_and_one_more(self):
        trust = Trust()
        rivals = [pay(trust, 0, 1, 1, 1 + at, None, None, None) for at in range(65)]
        self.assertEqual([(name,) for name in rivals[:64]], lots.greatest_lots(trust, THREE, rivals[:64]))
        with self.assertRaises(TooMany):
            lots.greatest_lots(trust, THREE, rivals)
        self.assertEqual([(rivals[0],)], lots.greatest_lots(trust, THREE, [rivals[0]] * 100))

    def test_two_to_the_sixth_and_seventh(self):
        trust = Trust()
        bank = ((9,) * 8, 4, 1)
        pairs = [[pay(trust, purse, 1, 0, amount, *[None] * 8) for amount in (1, 2)] for purse in range(7)]
        six = [name for pair in pairs[:6] for name in pair]
        found = lots.greatest_lots(trust, bank, six)
        self.assertEqual(64, len(found))
        self.assertEqual(sorted(found), found)
        self.assertEqual(64, len(set(found)))
        for lot in found:
            self.assertTrue(lots.is_lot(trust, bank, lot))
            self.assertEqual(6, len(lot))
        self.assertEqual(64, len(lots.greatest_lots(trust, bank, six + pairs[6][:1])))
        with self.assertRaises(TooMany):
            lots.greatest_lots(trust, bank, six + pairs[6])

    def test_so_many_that_they_cannot_be_counted(self):
        trust = Trust()
        bank = ((60,) * 8, 4, 1)
        payments = []
        for purse in range(8):
            last = None
            for number in range(1, 25):
                causes = [None] * 8
                causes[purse] = last
                rivals = [pay(trust, purse, number, purse, amount, *causes) for amount in (1, 2)]
                payments += rivals
                last = rivals[0]
        with self.assertRaises(TooMany):
            lots.greatest_lots(trust, bank, payments)

    def test_four_hundred_in_one_lot_beside_some_that_clash(self):
        trust = Trust()
        bank = ((50,) * 8, 4, 1)
        names = chain(trust, bank, 390)
        wanted = [tuple(names)]
        forks = []
        for at in (8, 80, 160, 240, 320):
            forks.append(pay(trust, 0, at // 8 + 1, 0, 7, *names[at - 8:at]))
            wanted.append(tuple(names[:at] + forks[-1:]))
        self.assertEqual(sorted(wanted), lots.greatest_lots(trust, bank, names + forks))

    def test_lots_of_four_hundred_join(self):
        trust = Trust()
        bank = ((50,) * 8, 4, 1)
        names = tuple(chain(trust, bank, 400))
        self.assertEqual(names, lots.joined_lots(trust, bank, names[:250], names))
        self.assertEqual(names[:250], lots.common_lot(trust, bank, names[:250], names))
        self.assertEqual(names, lots.lot_of(trust, bank, [names[-1]]))
        self.assertEqual([names], lots.greatest_lots(trust, bank, names))


class AgainstPlainWords(unittest.TestCase):
    def test_greatest_lots_and_lots_of_parts(self):
        counts = {}
        for seed in range(60):
            bank = BANKS[seed % 3]
            plain, names = grow(seed, bank, 8, poor=0.2)
            every = plain.lots_of(names)
            for some in [tuple(names)] + list(combinations(names, 2)) + list(combinations(names[-5:], 3)):
                there = set().union(*[plain.past(name) for name in some])
                inside = [lot for lot in every if set(lot) <= there]
                greatest = [lot for lot in inside if not any(set(lot) < set(other) for other in inside)]
                found = lots.greatest_lots(plain.trust, bank, some)
                self.assertEqual(sorted(greatest), found)
                counts[len(found)] = counts.get(len(found), 0) + 1
                self.check_lot_of(plain, bank, some, there)
                for name in there:
                    lone = not any(plain.clashes(plain.past(name) | {other}) for other in there)
                    self.assertEqual(lone, all(name in lot for lot in found))
        self.assertGreater(min(counts.get(many, 0) for many in (1, 2, 3, 4)), 5, counts)

    def check_lot_of(self, plain, bank, some, there):
        """Payments are in one lot exactly if each two of them are."""
        clashes = plain.clashes(there)
        paired = all(not plain.clashes(plain.past(one) | plain.past(other)) for one, other in combinations(some, 2))
        self.assertEqual(paired, not clashes)
        if clashes:
            self.assertEqual(clashes[0], clash_of(self, lots.lot_of, plain.trust, bank, list(some)))
        else:
            self.assertEqual(tuple(sorted(there)), lots.lot_of(plain.trust, bank, list(some)))

    def test_all_pairs_of_lots(self):
        joined = 0
        for seed in range(20):
            bank = BANKS[seed % 3]
            plain, names = grow(seed, bank, 6, poor=0.2)
            every = plain.lots_of(names)
            for one in every:
                for other in every:
                    joined += self.check_pair(plain, bank, one, other)
        self.assertGreater(joined, 1000)

    def check_pair(self, plain, bank, one, other):
        """Holds the two lots against plain words; whether they join."""
        trust = plain.trust
        pairs = [(a, b) for a in one for b in other if a != b and plain.place(a) == plain.place(b)]
        self.assertEqual(min(pairs, default=None), lots.clash_between(trust, bank, one, other))
        common = lots.common_lot(trust, bank, one, other)
        self.assertEqual(tuple(sorted(set(one) & set(other))), common)
        self.assertTrue(plain.is_lot(common))
        if pairs:
            self.assertEqual(pairs[0], clash_of(self, lots.joined_lots, trust, bank, one, other))
            return 0
        whole = lots.joined_lots(trust, bank, one, other)
        self.assertEqual(tuple(sorted(set(one) | set(other))), whole)
        right = lots.is_right_lot(trust, bank, one) and lots.is_right_lot(trust, bank, other)
        self.assertEqual(right, lots.is_right_lot(trust, bank, whole))
        self.assertTrue(lots.is_lot(trust, bank, whole))
        return 1


if __name__ == "__main__":
    unittest.main()
