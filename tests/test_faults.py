"""[21]: what is wrong with a payment, clause by clause, at the least name of its past."""

import unittest

from pursesapart import payments
from pursesapart.trust import Trust
from tests.helpers import SMALL, THREE, pay
from tests.webs import grow

BANKS = (((3, 2), 4, 1), ((2, 1, 3), 7, 2), ((4,), 1, 0))


class Clauses(unittest.TestCase):
    def setUp(self):
        self.trust = Trust()

    def fault(self, name, bank=SMALL):
        """What is wrong; it goes together with what else is told."""
        fault = payments.fault_of(self.trust, bank, name)
        self.assertEqual(fault is None, payments.is_right(self.trust, bank, name))
        if fault is None or fault[0] != "amount":
            self.assertEqual(fault is None, payments.has_form(self.trust, bank, name))
        return fault

    def test_nothing(self):
        x = pay(self.trust, 0, 1, 1, 5, None, None)
        y = pay(self.trust, 1, 1, 0, 5, x, None)
        z = pay(self.trust, 0, 2, 0, 5, x, y)
        for name in (x, y, z):
            self.assertIsNone(self.fault(name))

    def test_outer(self):
        junk = self.trust.name("junk")
        x = pay(self.trust, 0, 1, 1, 5, None, junk)
        y = pay(self.trust, 1, 1, 1, 5, x, None)
        for name in (x, y):
            self.assertEqual(("outer", junk), self.fault(name))

    def test_outer_ahead_of_what_is_wrong_above(self):
        good = pay(self.trust, 0, 1, 1, 5, None, None)
        junk = self.trust.name("junk")
        self.assertEqual(("outer", junk), self.fault(pay(self.trust, 0, 9, 1, 99, junk, good)))

    def test_the_least_name_comes_first(self):
        poor = pay(self.trust, 0, 1, 1, 6, None, None)
        junk = self.trust.name("junk")
        self.assertEqual(("amount", poor, 5), self.fault_of_both(poor, junk))
        late = self.trust.name("late junk")
        lone = pay(self.trust, 0, 1, 1, 7, None, None)
        self.assertEqual(("outer", late), self.fault_of_both(lone, late))

    def fault_of_both(self, one, other):
        """What is wrong with a payment over these two; the form is lacking in any case."""
        return payments.fault_of(self.trust, SMALL, pay(self.trust, 0, 2, 1, 1, one, other))

    def test_purse(self):
        x = pay(self.trust, 0, 1, 1, 2, None, None)
        y = pay(self.trust, 1, 1, 0, 2, x, None)
        self.assertEqual(("purse", pay(self.trust, 0, 2, 1, 1, y, None), 0), self.named_fault())
        self.assertEqual(("purse", pay(self.trust, 0, 2, 1, 1, x, x), 1), self.named_fault())
        self.assertEqual(("purse", pay(self.trust, 0, 2, 1, 1, y, x), 0), self.named_fault())

    def named_fault(self):
        """What is wrong with the payment that was named last."""
        return self.fault(("name", self.trust.size() - 1))

    def test_purse_ahead_of_clash_last_number_and_amount(self):
        x = pay(self.trust, 0, 1, 1, 2, None, None, None)
        rival = pay(self.trust, 0, 1, 1, 3, None, None, None)
        bent = pay(self.trust, 2, 9, 1, 99, x, rival, None)
        self.assertEqual(("purse", bent, 1), self.fault(bent, THREE))

    def test_clash(self):
        x = pay(self.trust, 0, 1, 1, 2, None, None)
        rival = pay(self.trust, 0, 1, 1, 3, None, None)
        y = pay(self.trust, 1, 1, 0, 1, rival, None)
        z = pay(self.trust, 1, 2, 0, 1, x, y)
        self.assertEqual(("clash", z, x, rival), self.fault(z))

    def test_clash_ahead_of_last_number_and_amount(self):
        x = pay(self.trust, 0, 1, 1, 2, None, None)
        rival = pay(self.trust, 0, 1, 1, 3, None, None)
        y = pay(self.trust, 1, 1, 0, 1, rival, None)
        z = pay(self.trust, 1, 9, 0, 99, x, y)
        w = pay(self.trust, 0, 9, 0, 99, x, y)
        self.assertEqual(("clash", z, x, rival), self.fault(z))
        self.assertEqual(("clash", w, x, rival), self.fault(w))

    def test_the_least_pair_that_clashes(self):
        bank = ((9, 9, 9), 4, 1)
        a = pay(self.trust, 0, 1, 1, 1, None, None, None)
        b = pay(self.trust, 1, 1, 2, 1, None, None, None)
        c = pay(self.trust, 1, 1, 2, 2, a, None, None)
        d = pay(self.trust, 0, 1, 1, 2, None, b, None)
        e = pay(self.trust, 2, 1, 1, 2, d, b, None)
        f = pay(self.trust, 0, 2, 1, 1, a, c, None)
        bent = pay(self.trust, 2, 2, 1, 1, f, c, e)
        self.assertEqual(("clash", bent, a, d), self.fault(bent, bank))

    def test_three_that_clash(self):
        bank = ((9, 9, 9), 4, 1)
        rivals = [pay(self.trust, 0, 1, 1, 1 + at, None, None, None) for at in range(3)]
        b = pay(self.trust, 1, 1, 0, 1, rivals[2], None, None)
        c = pay(self.trust, 2, 1, 0, 1, rivals[1], None, None)
        bent = pay(self.trust, 2, 2, 0, 1, rivals[0], b, c)
        self.assertEqual(("clash", bent, rivals[0], rivals[1]), self.fault(bent, bank))

    def test_last(self):
        x = pay(self.trust, 0, 1, 1, 2, None, None)
        x2 = pay(self.trust, 0, 2, 1, 2, x, None)
        y = pay(self.trust, 1, 1, 0, 1, x2, None)
        old = pay(self.trust, 1, 2, 0, 1, x, y)
        none = pay(self.trust, 1, 2, 0, 1, None, y)
        own = pay(self.trust, 0, 2, 1, 1, x, y)
        lone = pay(self.trust, 0, 1, 1, 1, None, y)
        for name in (old, none, own, lone):
            self.assertEqual(("last", name, 0), self.fault(name))
        last = pay(self.trust, 0, 3, 1, 1, x2, None)
        self.assertIsNone(self.fault(last))
        hidden = pay(self.trust, 0, 3, 1, 1, pay(self.trust, 0, 3, 1, 1, x2, y), None)
        self.assertEqual(("last", hidden, 1), self.fault(hidden))

    def test_the_least_purse_that_is_not_last_ahead_of_number_and_amount(self):
        x = pay(self.trust, 0, 1, 1, 2, None, None, None)
        y = pay(self.trust, 1, 1, 0, 1, x, None, None)
        z = pay(self.trust, 2, 1, 0, 1, None, None, None)
        bank = ((5, 0, 2), 4, 1)
        w = pay(self.trust, 2, 2, 0, 1, x, y, z)
        bent = pay(self.trust, 2, 9, 0, 99, None, None, w)
        self.assertEqual(("last", bent, 0), self.fault(bent, bank))
        bent = pay(self.trust, 2, 9, 0, 99, x, None, w)
        self.assertEqual(("last", bent, 1), self.fault(bent, bank))

    def test_number(self):
        first = pay(self.trust, 0, 2, 1, 1, None, None)
        self.assertEqual(("number", first), self.fault(first))
        x = pay(self.trust, 0, 1, 1, 1, None, None)
        for number in (1, 3, 4):
            bent = pay(self.trust, 0, number, 1, 1, x, None)
            self.assertEqual(("number", bent), self.fault(bent))
        self.assertIsNone(self.fault(pay(self.trust, 0, 2, 1, 1, x, None)))
        other = pay(self.trust, 1, 2, 1, 1, x, None)
        self.assertEqual(("number", other), self.fault(other))
        self.assertIsNone(self.fault(pay(self.trust, 1, 1, 1, 1, x, None)))

    def test_number_ahead_of_amount(self):
        bent = pay(self.trust, 0, 2, 1, 99, None, None)
        self.assertEqual(("number", bent), self.fault(bent))

    def test_amount(self):
        x = pay(self.trust, 0, 1, 1, 4, None, None)
        for amount, found in ((1, None), (4, None), (5, 4), (99, 4)):
            y = pay(self.trust, 1, 1, 0, amount, x, None)
            self.assertEqual(None if found is None else ("amount", y, found), self.fault(y))
        z = pay(self.trust, 0, 2, 1, 2, x, None)
        self.assertEqual(("amount", z, 1), self.fault(z))

    def test_what_comes_in_counts_only_when_it_is_seen(self):
        x = pay(self.trust, 0, 1, 1, 4, None, None)
        blind = pay(self.trust, 1, 1, 0, 1, None, None)
        seeing = pay(self.trust, 1, 1, 0, 1, x, None)
        self.assertEqual(("amount", blind, 0), self.fault(blind))
        self.assertIsNone(self.fault(seeing))


class AgainstPlainWords(unittest.TestCase):
    def test_bent_webs(self):
        kinds = {}
        for seed in range(420):
            bank = BANKS[seed % 3]
            plain, names = grow(seed, bank, 9, poor=0.06, bent=0.3)
            for name in names:
                kind = self.compare(plain, bank, name)
                kinds[kind] = kinds.get(kind, 0) + 1
        for kind in ("none", "outer", "purse", "clash", "last", "number", "amount", "lacking"):
            self.assertGreater(kinds.get(kind, 0), 4, kinds)

    def compare(self, plain, bank, name):
        """Holds all answers for the name against plain words; the word of its fault."""
        trust = plain.trust
        if plain.parts(name) is None:
            self.assertFalse(payments.has_outer_form(trust, bank, name))
            return "lacking"
        fault = plain.fault(name)
        self.assertEqual(fault, payments.fault_of(trust, bank, name))
        self.assertEqual(fault is None, payments.is_right(trust, bank, name))
        self.assertEqual(plain.parts(name), payments.payment_of(trust, bank, name))
        self.assertEqual(tuple(sorted(plain.past(name))), payments.past_of(trust, bank, name))
        self.assertEqual(plain.has_form(name), payments.has_form(trust, bank, name))
        if plain.has_form(name):
            self.assertEqual(plain.found(name), payments.held_ahead(trust, bank, name))
        return "none" if fault is None else fault[0]

    def test_the_sequence_of_questions_plays_no_part(self):
        for seed in range(30):
            bank = BANKS[seed % 3]
            plain, names = grow(seed, bank, 9, poor=0.1, bent=0.3)
            again, others = grow(seed, bank, 9, poor=0.1, bent=0.3)
            self.assertEqual(names, others)
            kinds = [self.compare(plain, bank, name) for name in names]
            self.assertEqual(kinds[::-1], [self.compare(again, bank, name) for name in reversed(others)])


if __name__ == "__main__":
    unittest.main()
