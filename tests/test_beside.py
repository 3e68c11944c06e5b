"""[93] and [94]: payments beside one another, and how much can be paid at most."""

import random
import unittest
from itertools import combinations

from pursesapart.court import clash_papers, named
from pursesapart.errors import BadBank, BadLiars, BadMany, BadOwners, BadPayments, BadPurse, BadTimes, BadTrust, Empty, FewLie
from pursesapart.lots import content_for, is_right_lot
from pursesapart.mostly import beside_plan, drain_plan, most_beside, most_paid, paid_out, rest_of
from pursesapart.payments import payment_of
from pursesapart.plans import booked_by, carry_out, is_plan
from pursesapart.trust import Trust
from tests.helpers import BAD_BANKS, BAD_PURSES, BAD_TRUSTS, LONG, SMALL, THREE, check_errors, check_raises, odd_values, paid
from tests.helpers import pay, sealed_chain
from tests.plain import Plain
from tests.test_plans import BAD_LIARS
from tests.watch import contents_of, seals_of
from tests.ways import Ways, all_steps
from tests.webs import grow_lot

BANKS = [((5, 0), members, lies) for members in range(1, 14) for lies in range(5) if members >= 3 * lies + 1]
RICH = ((9, 6, 3), 4, 1)
BAD_TUPLES = [
    None, True, 0, [], [0], (1, 1), (1, 0), (2,), (0, 2), (-1,), (True,), (0, True), (False, 1), (None,), ("1",), ((1,),), {},
    {1: 2}, "ab", (LONG,), Trust(), ([],),
]


class Beside(unittest.TestCase):
    def setUp(self):
        self.trust = Trust()
        self.names = [paid(self.trust, 0, 1, 1, amount, None, None) for amount in (5, 4, 3, 2, 1)]

    def test_most_beside(self):
        for bank in BANKS:
            _, members, lies = bank
            need = members - lies
            for many in range(members + 1):
                most = most_beside(bank, many)
                if many >= need:
                    self.assertIsNone(most)
                    continue
                # Each takes need - many members that do not lie, none of them twice.
                count = 0
                while (count + 1) * (need - many) <= members - many:
                    count += 1
                self.assertEqual(count, most)
                self.assertEqual(many < members - 2 * lies, most == 1)
        self.assertEqual([1, 1, 2, None, None], [most_beside(SMALL, many) for many in range(5)])

    def test_beside_plans_of_all_numbers_of_liars(self):
        for bank in [((5, 0), 4, 1), ((5, 0), 7, 2), ((5, 0), 5, 1), ((5, 0), 13, 4), ((5, 0), 3, 0), ((5, 0), 1, 0)]:
            for many in range(bank[1] + 1):
                most = most_beside(bank, many)
                for members in (tuple(range(many)), tuple(range(bank[1] - many, bank[1]))):
                    for count in range(1, 6):
                        plan = beside_plan(self.trust, bank, members, self.names[:count])
                        self.assertEqual(most is None or count <= most, plan is not None)
                        if plan is not None:
                            booked = booked_by(self.trust, bank, members, plan)
                            self.assertEqual(tuple(self.names[:count]), booked)

    def test_there_is_none_exactly_if_none_is_told(self):
        for bank in (((5, 0), 4, 1), ((5, 0), 3, 0)):
            plain = Plain(self.trust, bank)
            for many in range(bank[1]):
                for liars in combinations(range(bank[1]), many):
                    ways = Ways(plain, liars, (), all_steps(plain, self.names[:2]))
                    best = ways.best(set(self.names[:2]))
                    told = beside_plan(self.trust, bank, liars, self.names[:2])
                    self.assertEqual(best is None, told is None)

    def test_with_payments_below(self):
        trust = Trust()
        bank = ((5, 5), 7, 2)
        x = paid(trust, 1, 1, 0, 2, None, None)
        y = paid(trust, 1, 2, 1, 1, None, x)
        some = [paid(trust, 0, 1, 1, 6, None, x), paid(trust, 0, 1, 1, 7, None, x), paid(trust, 0, 1, 1, 7, None, y)]
        for many in range(8):
            liars = tuple(range(many))
            plan = beside_plan(trust, bank, liars, some)
            most = most_beside(bank, many)
            self.assertEqual(most is None or most >= 3, plan is not None)
            if plan is not None:
                self.assertEqual(set(some) | {x, y}, set(booked_by(trust, bank, liars, plan)))
        self.assertTrue(beside_plan(trust, bank, (), some[2:]))

    def test_two_that_clash_convict_liars(self):
        for liars in ((1, 3), (0, 1, 2), (0, 1, 2, 3)):
            plan = beside_plan(self.trust, SMALL, liars, self.names[:2])
            one, other = carry_out(self.trust, SMALL, liars, plan)
            told = [pair[0] for pair in clash_papers(self.trust, SMALL, one, other)]
            self.assertGreaterEqual(len(told), 2)
            self.assertTrue(set(told) <= set(liars))
            votes = [("name", at) for at in range(self.trust.size()) if self.trust.content(("name", at))[0] == "vote"]
            self.assertTrue({pair[0] for pair in named(self.trust, SMALL, votes)} <= set(liars))
            self.setUp()

    def test_long_pasts(self):
        trust = Trust()
        names = sealed_chain(trust, SMALL, 398)
        some = [trust.name(("pay", 0, 200, to, 1, (names[396], names[397]))) for to in (0, 1)]
        for name in some:
            trust.seal(("owner", 0), name)
        plan = beside_plan(trust, SMALL, (1, 2), some)
        self.assertEqual(sorted(names + some), list(booked_by(trust, SMALL, (1, 2), plan)))
        self.assertIsNone(beside_plan(trust, SMALL, (1,), some))

    def test_errors(self):
        bads = [-1, 5, True, False, None, "1", (1,), [1], LONG, {}, Trust()]
        check_errors(self, most_beside, [("bank", SMALL, BadBank, BAD_BANKS), ("many", 4, BadMany, bads)])
        trust, a = self.trust, self.names[0]
        poor, loose = paid(trust, 0, 1, 1, 6, None, None), pay(trust, 0, 1, 0, 5, None, None)
        trust.seal(("owner", 1), loose)
        later, other = paid(trust, 0, 2, 1, 1, self.names[1], None), paid(trust, 1, 1, 0, 1, a, None)
        above = paid(trust, 1, 1, 0, 1, loose, None)
        split = [paid(trust, 1, 1, 0, 1, name, None) for name in self.names[:2]]
        bads = [None, True, 0, "ab", {}, {a: 1}, a, [], (), [a, a], [poor], [a, poor], [loose], [a, loose], [a, later], [a, other],
                [above], split, [None], [[a]], Trust()] + [[value] for value in odd_values()]
        check_errors(self, beside_plan, [
            ("trust", trust, BadTrust, BAD_TRUSTS), ("bank", SMALL, BadBank, BAD_BANKS), ("liars", (1, 2), BadLiars, BAD_LIARS),
            ("payments", [a, self.names[1]], BadPayments, bads),
        ])


def settled_web(seed):
    """A plain view and some payments of a lot, all of it sealed."""
    plain, lot = grow_lot(seed, RICH, 8, most=4)
    for name in lot:
        plain.trust.seal(("owner", plain.place(name)[0]), name)
    dice = random.Random(seed)
    some = dice.sample(lot, min(len(lot), dice.randrange(4)))
    return plain, some, sorted(set().union(*(plain.past(name) for name in some)))


class Much(unittest.TestCase):
    def setUp(self):
        self.trust = Trust()
        self.x = paid(self.trust, 0, 1, 1, 3, None, None)
        self.y = paid(self.trust, 1, 1, 0, 2, self.x, None)
        self.z = paid(self.trust, 1, 2, 1, 1, self.x, self.y)

    def test_most_paid(self):
        for payments, owners, told in [([], (0,), 5), ([], (1,), 0), ([self.x], (1,), 3), ([self.y], (0,), 7), ([self.y], (1,), 3),
                                       ([self.z, self.x], (1,), 3), ([self.z], (), 0), ([self.z], (0, 1), 0)]:
            self.assertEqual(told, most_paid(self.trust, SMALL, (), payments, owners))
            self.assertEqual(told, most_paid(self.trust, SMALL, (2,), tuple(payments), owners))
            for liars in ((0, 1), (0, 1, 3), (0, 1, 2, 3)):
                self.assertEqual(None if told else 0, most_paid(self.trust, SMALL, liars, payments, owners))

    def test_paid_out(self):
        names = paid_out(self.trust, SMALL, [self.y], (0,), 1)
        self.assertEqual([("pay", 0, 2, 1, 4, (self.x, self.y))], [self.trust.content(name) for name in names])
        self.assertTrue(self.trust.sealed(("owner", 0), names[0]))
        self.assertEqual([], paid_out(self.trust, SMALL, [], (1,), 0))
        self.assertEqual([], paid_out(self.trust, SMALL, [self.z], (), 0))
        first = paid_out(self.trust, SMALL, [], (0,), 1)
        self.assertEqual(("pay", 0, 1, 1, 5, (None, None)), self.trust.content(first[0]))

    def test_several_owners_pay_all_that_is_left(self):
        trust = Trust()
        x = paid(trust, 1, 1, 0, 6, None, None, None)
        size, seals = trust.size(), seals_of(trust)
        names = paid_out(trust, RICH, [x], (0, 1), 2)
        self.assertEqual([("pay", 0, 1, 2, 15, (None, x, None))], [trust.content(name) for name in names])
        names += paid_out(trust, RICH, [], (0, 1), 2)
        self.assertEqual([("pay", 0, 1, 2, 9, (None,) * 3), ("pay", 1, 1, 2, 6, (None,) * 3)], contents_of(trust)[size + 1:])
        wanted = [(("owner", purse), name) for purse, name in zip((0, 0, 1), names)]
        self.assertEqual(sorted(seals + wanted), sorted(seals_of(trust)))

    def test_as_much_as_that_comes_out_and_no_more(self):
        for seed in range(60):
            plain, some, names = settled_web(seed)
            for many in range(3):
                for owners in combinations(range(3), many):
                    self.check_paid(plain, some, names, owners)

    def check_paid(self, plain, some, names, owners):
        """The payments of paid_out can be booked with these, and take out just what is told."""
        told = most_paid(plain.trust, RICH, (1,), some, owners)
        to = [purse for purse in range(3) if purse not in owners][-1]
        made = paid_out(plain.trust, RICH, some, owners, to)
        lot = tuple(sorted(names + made))
        self.assertTrue(is_right_lot(plain.trust, RICH, lot))
        self.assertEqual("plan", rest_of(plain.trust, RICH, (1,), (), some + made)[0])
        parts = [plain.parts(name) for name in lot]
        self.assertEqual(told, sum(amount for purse, _, other, amount, _ in parts if purse in owners and other not in owners))
        behind = plain.purses_behind(lot)
        self.assertEqual([0] * len(owners), [behind[purse] for purse in owners])
        left = [purse for purse in owners if plain.purses_behind(names)[purse] > 0]
        self.assertEqual(left, [plain.parts(name)[0] for name in made])
        for name in made:
            purse, _, _, amount, _ = plain.parts(name)
            content = content_for(plain.trust, RICH, tuple(names), purse, to, amount)
            self.assertEqual(content, plain.trust.content(name))

    def test_no_plan_takes_out_more(self):
        """Owner 0 may make what it likes: each further payment of it, in all ways, with few liars."""
        bank = ((2, 1), 3, 0)
        for liars in ((), (1,), (0, 2)):
            trust = Trust()
            plain = Plain(trust, bank)
            come = paid(trust, 1, 1, 0, 1, None, None)
            names = [come] + [paid(trust, 0, 1, 1, amount, *causes) for amount, causes in
                              ((1, (None, None)), (2, (None, None)), (3, (None, come)))]
            names.append(paid(trust, 0, 2, 1, 1, names[2], come))
            most = most_paid(trust, bank, liars, [come], (0,))
            self.assertEqual(3, most)
            best = 0
            for row in Ways(plain, liars, (), all_steps(plain, names)).rows():
                booked = [plain.parts(name) for name in booked_by(trust, bank, liars, row)]
                best = max(best, sum(parts[3] for parts in booked if parts[0] == 0))
            self.assertEqual(most, best)

    def test_drained(self):
        for bank, liars in ((SMALL, (1, 3)), (SMALL, (0, 1, 2)), (((5, 0), 4, 1), (0, 1, 2, 3)), (THREE, (2, 3)),
                            (((7, 2, 1), 7, 2), (0, 2, 4)), (((5, 0), 1, 0), (0,)), (((5, 0), 13, 4), tuple(range(5)))):
            for times in (1, 2, 3, 20):
                self.check_drained(bank, liars, times)

    def check_drained(self, bank, liars, times):
        trust = Trust()
        names, plan = drain_plan(trust, bank, liars, 0, 1, times)
        self.assertIsInstance(names, tuple)
        booked = booked_by(trust, bank, liars, plan)
        self.assertEqual(set(names), set(names) & set(booked))
        parts = [payment_of(trust, bank, name) for name in names]
        self.assertEqual([(0, number, 1, bank[0][0]) for number in range(1, times + 1)], [part[:4] for part in parts])
        for at, part in enumerate(parts):
            self.assertEqual([None] * (len(bank[0]) - 1), list(part[4][1:]))
            if at == 0:
                self.assertIsNone(part[4][0])
            else:
                own = payment_of(trust, bank, part[4][0])
                self.assertEqual((0, at, 0, bank[0][0], parts[at - 1][4]), own)
        made = [name for name in range(trust.size())]
        self.assertIn(len(made), (2 * times, 2 * times - 1))
        for name in made:
            self.assertTrue(trust.sealed(("owner", 0), ("name", name)))
        self.assertTrue(is_plan(trust, bank, liars, plan))

    def test_drained_from_another_purse(self):
        trust = Trust()
        names, plan = drain_plan(trust, RICH, (0, 3), 2, 0, 2)
        self.assertEqual([(2, 1, 0, 3), (2, 2, 0, 3)], [payment_of(trust, RICH, name)[:4] for name in names])
        self.assertTrue(set(names) <= set(booked_by(trust, RICH, (0, 3), plan)))

    def test_errors_of_most_paid_and_paid_out(self):
        trust, x, y = self.trust, self.x, self.y
        poor, loose = paid(trust, 0, 1, 1, 6, None, None), pay(trust, 0, 1, 0, 5, None, None)
        above, rival = paid(trust, 1, 1, 1, 1, loose, None), paid(trust, 0, 1, 1, 1, None, None)
        after = paid(trust, 1, 1, 1, 1, rival, None)
        bads = [None, True, 0, "ab", {}, {x: 1}, x, [poor], [x, poor], [loose], [x, loose], [above], [x, rival], [y, after],
                [y, rival], [None], [[x]], Trust()] + [[value] for value in odd_values()]
        ahead = [("trust", trust, BadTrust, BAD_TRUSTS), ("bank", SMALL, BadBank, BAD_BANKS)]
        rest = [("payments", [y, x, y], BadPayments, bads), ("owners", (0,), BadOwners, BAD_TUPLES)]
        check_errors(self, most_paid, ahead + [("liars", (1, 2), BadLiars, BAD_LIARS)] + rest)
        check_errors(self, paid_out, ahead + rest + [("to", 1, BadPurse, BAD_PURSES + [0])])
        size = trust.size()
        check_raises(self, BadPurse, paid_out, [trust, SMALL, [], (0,), 0])
        self.assertEqual(size, trust.size())

    def test_errors_of_drain_plan(self):
        bad_times = [0, -1, 21, True, None, "1", (1,), [1], LONG, {}, Trust()]
        rows = [("trust", self.trust, BadTrust, BAD_TRUSTS), ("bank", SMALL, BadBank, BAD_BANKS),
                ("liars", (1, 2), BadLiars, BAD_LIARS), ("purse", 0, BadPurse, BAD_PURSES),
                ("to", 1, BadPurse, BAD_PURSES + [0]), ("times", 20, BadTimes, bad_times)]
        check_errors(self, drain_plan, rows)
        few = [self.trust, SMALL, (1,), 1, 0, 2]
        size = self.trust.size()
        check_raises(self, FewLie, drain_plan, few)
        check_raises(self, FewLie, drain_plan, [self.trust, SMALL, (), 0, 1, 2])
        for at, (error, bad) in enumerate([(BadPurse, 2), (BadPurse, 1), (BadTimes, 21)]):
            check_raises(self, error, drain_plan, few[:3 + at] + [bad] + few[4 + at:])
        check_raises(self, Empty, drain_plan, [self.trust, SMALL, (1, 2), 1, 0, 2])
        self.assertEqual(size, self.trust.size())


if __name__ == "__main__":
    unittest.main()
