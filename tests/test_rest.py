"""[91]: what can still be booked."""

import random
import unittest

from pursesapart.errors import BadBank, BadLiars, BadPayments, BadPlan, BadTrust, MoreLie
from pursesapart.lots import is_right_lot
from pursesapart.mostly import rest_of
from pursesapart.plans import booked_by, is_plan
from pursesapart.trust import Trust
from tests.helpers import BAD_BANKS, BAD_TRUSTS, SMALL, check_errors, odd_values, paid, pay, sealed_chain
from tests.plain import Plain
from tests.test_plans import BAD_LIARS, some_plan
from tests.ways import Ways, all_steps
from tests.webs import grow

TINY = ((3, 2), 3, 0)


def check_more_lie(test, function, trust, bank, rest):
    """MoreLie comes behind BadLiars, and ahead of all that follows."""
    for liars in ((0, 1), (1, 2, 3), (0, 1, 2, 3)):
        for arguments in (rest, [None] * len(rest)):
            with test.assertRaises(MoreLie) as caught:
                function(trust, bank, liars, *arguments)
            test.assertEqual(liars, caught.exception.liars)
    with test.assertRaises(BadLiars):
        function(trust, bank, [0, 1], *rest)


class Rest(unittest.TestCase):
    def setUp(self):
        self.trust = Trust()
        self.a = paid(self.trust, 0, 1, 1, 5, None, None)
        self.b = paid(self.trust, 0, 1, 1, 4, None, None)
        self.plan = ((0, self.a), (1, self.a), (2, self.b))

    def rest(self, payments, plan=None, liars=()):
        return rest_of(self.trust, SMALL, liars, self.plan if plan is None else plan, payments)

    def test_example_by_hand(self):
        self.assertEqual(("plan", ((3, self.a),)), self.rest([self.a]))
        self.assertEqual(("against", self.b, (0, 1)), self.rest([self.b]))
        self.assertEqual(("clash", self.a, self.b), self.rest([self.a, self.b]))

    def test_nothing_wanted(self):
        for payments in ([], ()):
            self.assertEqual(("plan", ()), self.rest(payments))

    def test_nothing_lacks(self):
        plan = self.plan + ((3, self.a),)
        for payments in ([self.a], (self.a, self.a)):
            self.assertEqual(("plan", ()), self.rest(payments, plan))

    def test_forged_comes_first(self):
        loose = pay(self.trust, 1, 1, 0, 2, self.a, None)
        other = pay(self.trust, 1, 1, 0, 1, self.a, None)
        self.assertEqual(("forged", loose), self.rest([other, loose, self.b]))
        self.assertEqual(("forged", other), self.rest([other]))
        self.trust.seal(("owner", 0), loose)
        self.trust.seal(("member", 1), loose)
        self.assertEqual(("forged", loose), self.rest([loose]))
        self.trust.seal(("owner", 1), loose)
        self.assertEqual("plan", self.rest([loose])[0])
        self.assertEqual(("clash", self.a, self.b), self.rest([loose, self.b]))

    def test_forged_below(self):
        loose = pay(self.trust, 0, 1, 0, 1, None, None)
        above = paid(self.trust, 0, 2, 1, 1, loose, None)
        self.assertEqual(("forged", loose), self.rest([above]))

    def test_the_least_clash(self):
        third = paid(self.trust, 0, 1, 0, 2, None, None)
        later = [paid(self.trust, 0, 2, 1, amount, third, None) for amount in (1, 2)]
        self.assertEqual(("clash", self.b, third), self.rest([third, self.b]))
        self.assertEqual(("clash", later[0], later[1]), self.rest(later[::-1]))
        self.assertEqual(("clash", self.a, third), self.rest([third, self.a] + later))

    def test_liars_do_not_count_against(self):
        self.assertEqual(("plan", ((2, self.b),)), self.rest([self.b], ((0, self.b), (1, self.a), (3, self.b)), (1,)))
        plan = ((0, self.a), (1, self.a))
        # A liar votes only if too few others can.
        self.assertEqual(("plan", ((1, self.b), (2, self.b), (3, self.b))), self.sorted_rest([self.b], plan, (1,)))
        self.assertEqual(("plan", ((0, self.b), (1, self.b), (2, self.b))), self.sorted_rest([self.b], (), (3,)))
        self.assertEqual(("against", self.b, (0, 2)), self.rest([self.b], plan + ((2, self.a), (3, self.b)), (1,)))

    def sorted_rest(self, payments, plan, liars):
        """The rest with ascending steps; here just one set of steps fits."""
        word, rest = self.rest(payments, plan, liars)
        return word, tuple(sorted(rest))

    def test_against_tells_the_least(self):
        trust = Trust()
        plain = Plain(trust, ((4, 4), 4, 1))
        a, b = paid(trust, 0, 1, 1, 1, None, None), paid(trust, 0, 1, 1, 2, None, None)
        c, d = paid(trust, 1, 1, 1, 1, None, None), paid(trust, 1, 1, 0, 2, None, None)
        plan = tuple((member, name) for member in (3, 1) for name in (b, d)) + ((2, b),)
        self.assertEqual(("against", a, (1, 2, 3)), rest_of(trust, plain.bank, (), plan, [c, a]))
        self.assertEqual(("against", c, (1, 3)), rest_of(trust, plain.bank, (), plan, [c, b]))
        e = paid(trust, 1, 2, 0, 1, a, c)
        self.assertEqual(("against", a, (1, 2, 3)), rest_of(trust, plain.bank, (), plan, [e]))

    def test_against_tells_members_in_their_sequence(self):
        third = paid(self.trust, 0, 1, 1, 3, None, None)
        for plan in (((1, self.a), (0, self.b)), ((0, self.b), (1, self.a)), ((1, self.b), (0, self.a))):
            self.assertEqual(("against", third, (0, 1)), self.rest([third], plan + ((2, third),)))

    def test_more_votes_than_needed(self):
        bank = ((5, 0), 10, 3)
        for many in range(11):
            plan = tuple((member, self.a) for member in range(many))
            word, rest = rest_of(self.trust, bank, (9,), plan, [self.a])
            self.assertEqual(("plan", max(0, 7 - many)), (word, len(rest)))

    def test_small_banks_against_all_further_steps(self):
        words = {"forged": 0, "clash": 0, "against": 0, "plan": 0}
        for seed in range(70):
            bank = (SMALL, TINY)[seed % 2]
            plain, names = grow(seed, ((5, 3), *bank[1:]), 3)
            bank = plain.bank
            dice = random.Random(seed)
            for name in names:
                if dice.random() < 0.9:
                    plain.trust.seal(("owner", plain.place(name)[0]), name)
            liars = tuple(sorted(dice.sample(range(bank[1]), dice.randrange(bank[1] - 2 * bank[2]))))
            plan = some_plan(dice, plain, names, liars, dice.randrange(8))
            wanted = dice.sample(names, dice.randint(1, 2))
            words[self.check_rest(plain, names, liars, plan, wanted)[0]] += 1
        self.assertGreater(min(words.values()), 3, words)

    def check_rest(self, plain, names, liars, plan, wanted):
        """Holds what is told against all that can be reached."""
        told = rest_of(plain.trust, plain.bank, liars, plan, wanted)
        every = set().union(*(plain.past(name) for name in wanted))
        best = Ways(plain, liars, plan, all_steps(plain, names)).best(every)
        if told[0] != "plan":
            self.assertIsNone(best)
            return told
        rest = told[1]
        self.assertTrue(is_plan(plain.trust, plain.bank, liars, plan + rest))
        self.assertTrue(every <= set(booked_by(plain.trust, plain.bank, liars, plan + rest)))
        self.assertEqual(best, (len(rest), sum(member in liars for member, _ in rest)))
        need = plain.bank[1] - plain.bank[2]
        for name in every:
            have = len([step for step in plan if step[1] == name])
            self.assertEqual(max(0, need - have), len([step for step in rest if step[1] == name]))
        return told

    def test_which_payments_can_be_booked_at_all(self):
        good = 0
        for seed in range(60):
            plain, names = grow(seed, ((5, 3), 4, 1), 6)
            dice = random.Random(seed)
            for name in names:
                if dice.random() < 0.9:
                    plain.trust.seal(("owner", plain.place(name)[0]), name)
            wanted = dice.sample(names, 2)
            every = tuple(sorted(set().union(*(plain.past(name) for name in wanted))))
            sealed = all(plain.trust.sealed(("owner", plain.place(name)[0]), name) for name in every)
            told = rest_of(plain.trust, plain.bank, (), (), wanted)
            self.assertEqual(sealed and is_right_lot(plain.trust, plain.bank, every), told[0] == "plan")
            good += told[0] == "plan"
            if told[0] == "plan":
                self.assertEqual(3 * len(every), len(told[1]))
        self.assertGreater(good, 10)

    def test_no_step_of_a_liar_while_few_lie_and_none_is_against(self):
        for seed in range(40):
            plain, names = grow(seed, ((5, 3), 4, 1), 6)
            dice = random.Random(seed)
            for name in names:
                plain.trust.seal(("owner", plain.place(name)[0]), name)
            liars = (dice.randrange(4),)
            told = rest_of(plain.trust, plain.bank, liars, (), [dice.choice(names)])
            self.assertEqual([], [step for step in told[1] if step[0] in liars])

    def test_long_chains(self):
        for bank, liars in ((SMALL, (2,)), (((5, 0), 13, 4), (0, 1, 2, 3)), (((5, 0), 13, 1), tuple(range(10)))):
            trust = Trust()
            names = sealed_chain(trust, bank, 100)
            plan = tuple((member, name) for name in names[:30] for member in range(bank[1] - bank[2]))
            word, rest = rest_of(trust, bank, liars, plan, [names[-1]])
            self.assertEqual(("plan", 70 * (bank[1] - bank[2])), (word, len(rest)))
            self.assertEqual(tuple(names), booked_by(trust, bank, liars, plan + rest))

    def test_errors(self):
        ahead = [("trust", self.trust, BadTrust, BAD_TRUSTS), ("bank", SMALL, BadBank, BAD_BANKS),
                 ("liars", (1,), BadLiars, BAD_LIARS)]
        bad_plans = [None, list(self.plan), self.plan + self.plan[:1], ((0, self.a), (0, self.b)), 0, True, {}, (0,)]
        poor = paid(self.trust, 0, 1, 1, 6, None, None)
        bads = [None, True, 0, "ab", {}, {self.a: 1}, self.a, [poor], [self.a, poor], [None], [[self.a]], [list(self.a)],
                [("name", self.trust.size())], [("name", True)], Trust()] + [[value] for value in odd_values()]
        check_errors(self, rest_of, ahead + [("plan", self.plan, BadPlan, bad_plans), ("payments", [self.a], BadPayments, bads)])
        check_more_lie(self, rest_of, self.trust, SMALL, [self.plan, [self.a]])

    def test_what_is_passed_is_not_changed(self):
        payments = [self.a, self.a]
        self.rest(payments)
        self.assertEqual([self.a, self.a], payments)
        size = self.trust.size()
        self.rest([self.a])
        self.assertEqual(size, self.trust.size())


if __name__ == "__main__":
    unittest.main()
