"""[92]: what a lying owner locks: its own purse."""

import random
import unittest
from itertools import combinations

from pursesapart.errors import BadBank, BadLiars, BadPayments, BadPlan, BadPurse, BadTrust
from pursesapart.mostly import lock_of, lock_plan, rest_of
from pursesapart.plans import booked_by, is_plan
from pursesapart.trust import Trust
from tests.helpers import BAD_BANKS, BAD_PURSES, BAD_TRUSTS, SMALL, check_errors, odd_values, paid, pay
from tests.plain import Plain
from tests.test_plans import BAD_LIARS, some_plan
from tests.test_rest import check_more_lie
from tests.ways import Ways, all_steps


def plain_lock(plain, liars, plan, booked, purse):
    """The words of lock_of."""
    number = 1 + sum(plain.place(name)[0] == purse for name in booked)
    holders = sorted(step for step in plan if step[0] not in liars and plain.place(step[1]) == (purse, number))
    lies = plain.bank[2]
    if len(holders) <= lies:
        return ("open", None)
    for _, payment in sorted(holders, key=lambda step: step[1]):
        if sum(other != payment for _, other in holders) <= lies:
            return ("open", payment)
    return ("locked", tuple(holders))


class Locks(unittest.TestCase):
    def setUp(self):
        self.trust = Trust()
        self.a, self.b, self.c = [paid(self.trust, 0, 1, 1, amount, None, None) for amount in (5, 4, 3)]
        self.plan = ((0, self.a), (1, self.a), (2, self.b))

    def test_example_by_hand(self):
        self.assertEqual(("open", self.a), lock_of(self.trust, SMALL, (), self.plan, 0))
        holders = ((0, self.a), (1, self.a), (2, self.b), (3, self.b))
        self.assertEqual(("locked", holders), lock_of(self.trust, SMALL, (), self.plan + ((3, self.b),), 0))
        self.assertIsNone(lock_plan(self.trust, SMALL, (3,), (), [self.a, self.b]))
        steps = lock_plan(self.trust, SMALL, (3,), (), [self.a, self.b, self.c])
        self.assertEqual(3, len(steps))
        self.assertEqual(("locked", tuple(sorted(steps))), lock_of(self.trust, SMALL, (3,), steps, 0))

    def test_open_for_any(self):
        for plan in ((), ((3, self.b),)):
            self.assertEqual(("open", None), lock_of(self.trust, SMALL, (), plan, 0))
        self.assertEqual(("open", None), lock_of(self.trust, SMALL, (), self.plan, 1))
        self.assertEqual(("open", None), lock_of(self.trust, SMALL, (1,), self.plan[:2], 0))

    def test_holders_are_told_in_their_sequence_whatever_the_plan(self):
        plan = ((3, self.b), (2, self.a), (1, self.c), (0, self.c))
        self.assertEqual(("locked", tuple(sorted(plan))), lock_of(self.trust, SMALL, (), plan, 0))
        self.assertEqual(("open", self.b), lock_of(self.trust, SMALL, (), ((3, self.c), (2, self.b)), 0))
        self.assertEqual(("open", self.b), lock_of(self.trust, SMALL, (0,), ((0, self.a), (3, self.c), (2, self.b)), 0))

    def test_the_next_number_follows_what_is_booked(self):
        booked = tuple((member, self.a) for member in range(3))
        self.assertEqual(("open", None), lock_of(self.trust, SMALL, (), booked, 0))
        d, e = [paid(self.trust, 0, 2, 0, amount, self.a, None) for amount in (1, 2)]
        self.assertFalse(is_plan(self.trust, SMALL, (), booked + ((0, d),)))
        trust = Trust()
        a = paid(trust, 0, 1, 1, 1, None, None)
        d, e = [paid(trust, 0, 2, 1, amount, a, None) for amount in (1, 2)]
        plan = tuple((member, a) for member in range(3))
        for steps, told in [((), ("open", None)), (((0, d), (1, e)), ("open", d)),
                            (((0, d), (1, e), (2, d), (3, e)), ("locked", ((0, d), (1, e), (2, d), (3, e))))]:
            self.assertEqual(told, lock_of(trust, SMALL, (), plan + steps, 0))
        self.assertEqual(4, len(lock_plan(trust, SMALL, (), plan, [d, e])))
        with self.assertRaises(BadPayments):
            lock_plan(trust, SMALL, (), plan, [a])

    def test_locks_by_counts(self):
        """Without any holder: as many steps as the document tells, if there are so many members."""
        for members in range(1, 14):
            for lies in range((members - 1) // 3 + 1):
                bank = ((20, 0), members, lies)
                for many in range(members - 2 * lies):
                    trust = Trust()
                    names = [paid(trust, 0, 1, 1, amount, None, None) for amount in range(1, 6)]
                    for j in range(1, 6):
                        self.check_count(trust, bank, tuple(range(members))[members - many:], names[:j])

    def check_count(self, trust, bank, liars, names):
        steps = lock_plan(trust, bank, liars, (), names)
        lies = bank[2]
        if len(names) < 2:
            self.assertIsNone(steps)
            return
        wanted = lies + 1 + -(-(lies + 1) // (len(names) - 1))
        if bank[1] - len(liars) < wanted:
            self.assertIsNone(steps)
        else:
            self.assertEqual(wanted, len(steps))
            self.assertTrue(is_plan(trust, bank, liars, steps))
            self.assertEqual("locked", lock_of(trust, bank, liars, steps, 0)[0])

    def test_behind_any_plan_against_all_sets_of_steps(self):
        found = {None: 0}
        for seed in range(60):
            dice = random.Random(seed)
            bank = [((6, 0), 4, 1), ((6, 0), 5, 1), ((6, 0), 3, 0), ((6, 0), 2, 0)][seed % 4]
            trust = Trust()
            plain = Plain(trust, bank)
            names = [paid(trust, 0, 1, 1, amount, None, None) for amount in (1, 2, 3)]
            liars = tuple(sorted(dice.sample(range(bank[1]), dice.randrange(bank[1] - 2 * bank[2]))))
            plan = some_plan(dice, plain, names, liars, dice.randrange(4))
            if booked_by(trust, bank, liars, plan):
                continue
            for many in (1, 2, 3):
                for some in combinations(names, many):
                    told = self.check_lock_plan(plain, liars, plan, list(some))
                    found[told] = found.get(told, 0) + 1
        self.assertGreater(min(found.values()), 3, found)
        self.assertGreaterEqual(set(found), {None, 0, 1, 2})

    def check_lock_plan(self, plain, liars, plan, some):
        """How many steps are told, as few as any set that locks has."""
        steps = lock_plan(plain.trust, plain.bank, liars, plan, some)
        ways = Ways(plain, liars, plan, all_steps(plain, some))
        fewest = min([len(row) for row in ways.rows() if self.is_locked(plain, liars, plan + row)], default=None)
        self.assertEqual(fewest, None if steps is None else len(steps))
        if steps is not None:
            self.assertTrue(is_plan(plain.trust, plain.bank, liars, plan + steps))
            self.assertTrue(self.is_locked(plain, liars, plan + steps))
            self.assertTrue({step[1] for step in steps} <= set(some))
        return fewest

    def is_locked(self, plain, liars, plan):
        """Whether lock_of tells it, which is held against the words here."""
        booked = booked_by(plain.trust, plain.bank, liars, plan)
        told = plain_lock(plain, liars, plan, booked, 0)
        self.assertEqual(told, lock_of(plain.trust, plain.bank, liars, plan, 0))
        return told[0] == "locked"

    def test_what_is_locked_is_locked_for_ever_and_what_is_open_is_not(self):
        kinds = {"locked": 0, "one": 0, "any": 0}
        for seed in range(60):
            dice = random.Random(seed)
            bank = [((6, 0), 4, 1), ((6, 0), 3, 0)][seed % 2]
            trust = Trust()
            plain = Plain(trust, bank)
            names = [paid(trust, 0, 1, 1, amount, None, None) for amount in (1, 2, 3)]
            above = [paid(trust, 0, 2, 0, 1, names[0], None)]
            liars = tuple(sorted(dice.sample(range(bank[1]), dice.randrange(bank[1] - 2 * bank[2]))))
            plan = some_plan(dice, plain, names + above, liars, dice.randrange(6))
            if booked_by(trust, bank, liars, plan):
                continue
            word, told = lock_of(trust, bank, liars, plan, 0)
            if word == "locked":
                kinds["locked"] += 1
                for row in Ways(plain, liars, plan, all_steps(plain, names + above)).rows():
                    self.assertEqual((), booked_by(trust, bank, liars, plan + row))
                continue
            kinds["any" if told is None else "one"] += 1
            late = paid(trust, 0, 1, 0, 6, None, None)
            for payment in names + [late] if told is None else [told]:
                self.assertEqual("plan", rest_of(trust, bank, liars, plan, [payment])[0])
        self.assertGreater(min(kinds.values()), 3, kinds)

    def test_one_payment_for_each_number_never_locks(self):
        for members, lies in ((4, 1), (7, 2), (13, 4)):
            bank = ((5, 0), members, lies)
            for many in range(members + 1):
                plan = tuple((member, self.a) for member in range(many))
                self.assertEqual("open", lock_of(self.trust, bank, (), plan, 0)[0])
                if many < members - lies:
                    self.assertIsNone(lock_plan(self.trust, bank, (), plan, [self.a]))

    def test_one_payment_against_another_locks(self):
        plan = ((0, self.a), (1, self.a))
        self.assertEqual({(2, self.b), (3, self.b)}, set(lock_plan(self.trust, SMALL, (), plan, [self.b])))
        self.assertEqual(1, len(lock_plan(self.trust, SMALL, (), self.plan, [self.b])))
        self.assertIsNone(lock_plan(self.trust, SMALL, (), self.plan, [self.a]))
        self.assertEqual((), lock_plan(self.trust, SMALL, (), self.plan + ((3, self.b),), [self.c]))

    def test_errors_of_lock_of(self):
        ahead = [("trust", self.trust, BadTrust, BAD_TRUSTS), ("bank", SMALL, BadBank, BAD_BANKS),
                 ("liars", (1,), BadLiars, BAD_LIARS)]
        bad_plans = [None, list(self.plan), self.plan + self.plan[:1], ((0, self.a), (0, self.b)), 0, True, {}, (0,)]
        check_errors(self, lock_of, ahead + [("plan", self.plan, BadPlan, bad_plans), ("purse", 0, BadPurse, BAD_PURSES)])
        check_more_lie(self, lock_of, self.trust, SMALL, [self.plan, 0])

    def test_errors_of_lock_plan(self):
        ahead = [("trust", self.trust, BadTrust, BAD_TRUSTS), ("bank", SMALL, BadBank, BAD_BANKS),
                 ("liars", (1,), BadLiars, BAD_LIARS)]
        bad_plans = [None, list(self.plan), self.plan + self.plan[:1], ((0, self.a), (0, self.b)), 0, True, {}, (0,)]
        poor, loose = paid(self.trust, 0, 1, 1, 6, None, None), pay(self.trust, 0, 1, 0, 5, None, None)
        self.trust.seal(("owner", 1), loose)
        next_one, other = paid(self.trust, 0, 2, 1, 1, self.b, None), paid(self.trust, 1, 1, 0, 2, self.a, None)
        bads = [None, True, 0, "ab", {}, {self.a: 1}, self.a, [], (), [self.a, self.a], [poor], [self.a, poor], [loose],
                [self.a, loose], [next_one], [self.a, next_one], [other], [self.a, other], [None], [[self.a]], Trust()]
        bads += [[value] for value in odd_values()]
        check_errors(self, lock_plan, ahead + [("plan", self.plan, BadPlan, bad_plans),
                                               ("payments", [self.a, self.b], BadPayments, bads)])
        check_more_lie(self, lock_plan, self.trust, SMALL, [self.plan, [self.a]])

    def test_what_is_below_must_be_booked(self):
        bank = ((5, 5), 4, 1)
        trust = Trust()
        x = paid(trust, 1, 1, 0, 2, None, None)
        some = [paid(trust, 0, 1, 1, amount, None, x) for amount in (6, 7)]
        plan = tuple((member, x) for member in range(3))
        self.assertEqual(4, len(lock_plan(trust, bank, (), plan, some)))
        for shorter in (plan[:2], ()):
            with self.assertRaises(BadPayments):
                lock_plan(trust, bank, (), shorter, some)


if __name__ == "__main__":
    unittest.main()
