"""[90]: plans, what is booked by them, and carrying them out."""

import random
import unittest
from itertools import product

from pursesapart.court import judged, named
from pursesapart.errors import BadBank, BadLiars, BadPlan, BadTrust
from pursesapart.lots import is_right_lot
from pursesapart.plans import booked_by, carry_out, is_plan
from pursesapart.trust import Trust
from pursesapart.votes import certificate_of
from tests.helpers import BAD_BANKS, BAD_TRUSTS, LONG, SMALL, THREE, check_errors, odd_values, paid, pay, sealed_chain
from tests.plain import Plain
from tests.watch import contents_of, seals_of
from tests.webs import grow

BAD_LIARS = [
    None, True, 0, [], [1], (1, 1), (2, 1), (4,), (0, 4), (-1,), (True,), (0, True), (False, 1), (None,), ("1",), ((1,),),
    {}, {1: 2}, "ab", (LONG,), Trust(), ([],),
]


def plain_step(plain, liars, done, step):
    """Whether the step can be done behind those before it, by the words."""
    member, payment = step
    need = plain.bank[1] - plain.bank[2]
    if step in done or plain.parts(payment) is None or plain.fault(payment) is not None:
        return False
    if member in liars:
        return True
    if not plain.trust.sealed(("owner", plain.place(payment)[0]), payment):
        return False
    for name in plain.below(payment):
        if len({one for one, voted in done if voted == name}) < need:
            return False
    own = [voted for one, voted in done if one == member]
    if any(voted != payment and plain.place(voted) == plain.place(payment) for voted in own):
        return False
    return not plain.clashes(set().union(plain.below(payment), *(plain.below(voted) for voted in own)))


def plain_is_plan(plain, liars, plan):
    """Whether each step can be done."""
    return all(plain_step(plain, liars, plan[:at], step) for at, step in enumerate(plan))


def plain_booked(plain, plan):
    """What is certified, all below it too."""
    need = plain.bank[1] - plain.bank[2]
    names = {name for _, name in plan}
    certified = {name for name in names if len({member for member, voted in plan if voted == name}) >= need}
    return tuple(sorted(name for name in certified if plain.past(name) <= certified))


def some_plan(dice, plain, names, liars, many):
    """A plan of so many steps at most, each one drawn out of all that can be done."""
    plan = ()
    every = [(member, name) for name in names for member in range(plain.bank[1])]
    while len(plan) < many:
        steps = [step for step in every if plain_step(plain, liars, plan, step)]
        if not steps:
            return plan
        plan += (dice.choice(steps),)
    return plan


class Plans(unittest.TestCase):
    def setUp(self):
        self.trust = Trust()
        self.a = paid(self.trust, 0, 1, 1, 5, None, None)
        self.b = paid(self.trust, 0, 1, 1, 4, None, None)
        self.c = paid(self.trust, 1, 1, 0, 2, self.a, None)
        self.booked = tuple((member, self.a) for member in (0, 1, 2))

    def plan(self, *steps, liars=()):
        """Whether these steps are a plan."""
        return is_plan(self.trust, SMALL, liars, steps)

    def test_plans(self):
        self.assertTrue(self.plan())
        self.assertTrue(self.plan((3, self.a), (0, self.b)))
        self.assertTrue(self.plan(*self.booked))
        self.assertTrue(self.plan(*self.booked, (3, self.c), (0, self.c)))
        self.assertIs(True, is_plan(self.trust, SMALL, (1,), self.booked))

    def test_no_step_twice(self):
        self.assertFalse(self.plan((0, self.a), (0, self.a)))
        self.assertFalse(self.plan((0, self.a), (0, self.a), liars=(0,)))

    def test_payments_must_be_right_also_for_liars(self):
        poor = paid(self.trust, 0, 1, 1, 6, None, None)
        for payment in (poor, self.trust.name("pay"), ("name", self.trust.size()), ("name", True)):
            self.assertFalse(self.plan((0, payment)))
            self.assertFalse(self.plan((0, payment), liars=(0, 1, 2, 3)))

    def test_payments_must_be_sealed_unless_liars_vote(self):
        payment = pay(self.trust, 0, 1, 1, 3, None, None)
        self.trust.seal(("owner", 1), payment)
        self.assertFalse(self.plan((0, payment), liars=(1,)))
        self.assertTrue(self.plan((1, payment), liars=(1,)))
        self.trust.seal(("owner", 0), payment)
        self.assertTrue(self.plan((0, payment), (1, payment), liars=(1,)))

    def test_what_is_below_must_be_certified(self):
        self.assertFalse(self.plan((0, self.c)))
        self.assertFalse(self.plan(*self.booked[:2], (3, self.c)))
        self.assertFalse(self.plan(*self.booked[:2], (3, self.c), *self.booked[2:]))
        self.assertTrue(self.plan((0, self.c), *self.booked, liars=(0,)))
        self.assertTrue(self.plan(*self.booked, (3, self.c), liars=(0, 1, 2)))

    def test_a_member_votes_once_for_a_number(self):
        self.assertFalse(self.plan((0, self.a), (0, self.b)))
        self.assertFalse(self.plan((0, self.b), (0, self.a)))
        self.assertTrue(self.plan((0, self.a), (0, self.b), liars=(0,)))
        self.assertTrue(self.plan((0, self.a), (1, self.b)))

    def test_what_a_member_knows_must_not_clash(self):
        """With many liars both a and b are certified; who votes above one of them cannot vote above the other."""
        d = paid(self.trust, 1, 1, 0, 1, self.b, None)
        e = paid(self.trust, 1, 2, 0, 1, self.a, self.c)
        liars = (0, 1, 2)
        both = tuple((member, name) for name in (self.a, self.b, self.c) for member in liars)
        self.assertTrue(self.plan(*both, (3, self.c), liars=liars))
        self.assertTrue(self.plan(*both, (3, d), liars=liars))
        self.assertFalse(self.plan(*both, (3, d), (3, e), liars=liars))
        self.assertFalse(self.plan(*both, (3, e), (3, d), liars=liars))
        # It may have voted for one, and know the other: only what is below counts.
        self.assertTrue(self.plan(*both, (3, self.b), (3, e), liars=liars))
        self.assertTrue(self.plan(*both, (2, d), (2, e), liars=liars))

    def test_all_that_is_below_must_be_certified_however_deep(self):
        trust = Trust()
        bank = ((5, 5, 5), 4, 1)
        a = paid(trust, 0, 1, 0, 1, None, None, None)
        c = paid(trust, 0, 2, 0, 1, a, None, None)
        e = paid(trust, 0, 3, 0, 1, c, None, None)
        liars = (0, 1, 2)
        above = tuple((member, c) for member in liars)
        below = tuple((member, a) for member in liars)
        self.assertFalse(is_plan(trust, bank, liars, above + ((3, e),)))
        self.assertFalse(is_plan(trust, bank, liars, above + below[:2] + ((3, e),)))
        self.assertTrue(is_plan(trust, bank, liars, above + below + ((3, e),)))
        self.assertTrue(is_plan(trust, bank, liars, above + below + ((3, c), (3, e))))

    def test_what_a_member_knows_must_not_clash_however_deep(self):
        trust = Trust()
        bank = ((5, 5, 5), 4, 1)
        ways = []
        for amount in (1, 2):
            ways.append([paid(trust, 0, 1, 0, amount, None, None, None)])
            for number in (2, 3):
                ways[-1].append(paid(trust, 0, number, 0, 1, ways[-1][-1], None, None))
        liars = (0, 1, 2)
        plan = tuple((member, name) for way in ways for name in way for member in liars)
        for purse, last in ((1, 0), (1, 1), (1, 2)):
            one = paid(trust, purse, 1, 0, 1, ways[0][last], None, None)
            for other_last in (0, 1, 2):
                other = paid(trust, 2, 1, 0, 1, ways[1][other_last], None, None)
                own = paid(trust, 2, 1, 0, 1, ways[0][other_last], None, None)
                self.assertFalse(is_plan(trust, bank, liars, plan + ((3, one), (3, other))))
                self.assertFalse(is_plan(trust, bank, liars, plan + ((3, other), (3, one))))
                self.assertTrue(is_plan(trust, bank, liars, plan + ((3, own), (3, one))))
                self.assertTrue(is_plan(trust, bank, liars, plan + ((3, one), (3, own))))

    def test_any_value_may_be_asked(self):
        bads = odd_values() + [list(self.booked), self.booked[0], (list(self.booked[0]),), ((0,),), ((0, self.a, 0),),
                               ((True, self.a),), ((4, self.a),), ((-1, self.a),), ((self.a, 0),), ((None, self.a),),
                               ((0, list(self.a)),), ((0, None),), (self.booked,), ({},), ((0, ("name", True)),), "ab"]
        for value in bads:
            with self.subTest(value=value):
                self.assertIs(value == (), is_plan(self.trust, SMALL, (), value))
                self.assertIs(False, is_plan(self.trust, SMALL, (), self.booked + (value,)))

    def test_all_short_rows_of_steps(self):
        steps = [(member, name) for member in range(4) for name in (self.a, self.b, self.c)]
        plain = Plain(self.trust, SMALL)
        for liars in ((), (1, 2)):
            for row in product(steps, repeat=3):
                self.assertEqual(plain_is_plan(plain, liars, row), is_plan(self.trust, SMALL, liars, row))

    def test_webs(self):
        good = 0
        for seed in range(60):
            plain, names = grow(seed, THREE, 6, poor=0.2 * (seed % 9 == 0), bent=0.03, free=seed % 2 == 0)
            dice = random.Random(seed)
            for name in names:
                if plain.parts(name) is not None and dice.random() < 0.9:
                    plain.trust.seal(("owner", plain.place(name)[0]), name)
            for liars in ((), (3,), (0, 2), (0, 1, 3)):
                plan = some_plan(dice, plain, names, liars, 9 * (seed % 4))
                good += len(booked_by(plain.trust, THREE, liars, plan)) > 1
                self.assertTrue(is_plan(plain.trust, THREE, liars, plan))
                self.assertEqual(plain_booked(plain, plan), booked_by(plain.trust, THREE, liars, plan))
                for _ in range(4):
                    row = list(plan)
                    dice.shuffle(row)
                    self.assertEqual(plain_is_plan(plain, liars, row), is_plan(plain.trust, THREE, liars, tuple(row)))
                    extra = (dice.randrange(4), dice.choice(names))
                    told = plain_step(plain, liars, plan, extra)
                    self.assertEqual(told, is_plan(plain.trust, THREE, liars, plan + (extra,)))
                self.check_heart(plain, liars, plan)
        self.assertGreater(good, 40)

    def check_heart(self, plain, liars, plan):
        """What is booked is a right sealed lot and a book; votes convict liars alone; a plan stays one."""
        booked = booked_by(plain.trust, THREE, liars, plan)
        book = carry_out(plain.trust, THREE, liars, plan)
        votes = []
        for member, payment in plan:
            votes.append(plain.trust.name(("vote", member, payment)))
            self.assertTrue(plain.trust.sealed(("member", member), votes[-1]))
        self.assertEqual([certificate_of(plain.trust, THREE, payment, votes) for payment in booked], book)
        self.assertTrue({pair[0] for pair in named(plain.trust, THREE, votes)} <= set(liars))
        self.assertTrue(is_plan(plain.trust, THREE, liars, plan))
        wider = tuple(sorted(set(liars) | {1}))
        self.assertTrue(is_plan(plain.trust, THREE, wider, plan))
        if len(liars) < 2:
            certified = [name for name in {step[1] for step in plan} if sum(step[1] == name for step in plan) >= 3]
            self.assertEqual(booked, tuple(sorted(certified)))
            self.assertTrue(is_right_lot(plain.trust, THREE, booked))
            self.assertTrue(all(plain.trust.sealed(("owner", plain.place(name)[0]), name) for name in booked))
            self.assertEqual(("lot", booked), judged(plain.trust, THREE, [book]))

    def test_booked(self):
        self.assertEqual((), booked_by(self.trust, SMALL, (), ()))
        self.assertEqual((), booked_by(self.trust, SMALL, (), self.booked[:2]))
        self.assertEqual((self.a,), booked_by(self.trust, SMALL, (), self.booked))
        above = tuple((member, self.c) for member in (0, 1, 2))
        self.assertEqual((self.a, self.c), booked_by(self.trust, SMALL, (), self.booked + above))
        self.assertEqual((), booked_by(self.trust, SMALL, (0, 1, 2), above))
        self.assertEqual((self.a, self.c), booked_by(self.trust, SMALL, (0, 1, 2), above + self.booked))

    def test_votes_are_named_and_sealed_in_the_sequence_of_the_steps(self):
        plan = ((3, self.a), (0, self.b), (1, self.a), (2, self.a))
        size, seals = self.trust.size(), seals_of(self.trust)
        self.assertEqual((self.a,), booked_by(self.trust, SMALL, (), plan))
        self.assertEqual((size, seals), (self.trust.size(), seals_of(self.trust)))
        told = carry_out(self.trust, SMALL, (), plan)
        self.assertEqual([("vote", member, payment) for member, payment in plan], contents_of(self.trust)[size:])
        names = [("name", size + at) for at in (0, 2, 3)]
        self.assertEqual([(self.a, tuple(names))], told)
        told.clear()
        self.assertEqual([(self.a, tuple(names))], carry_out(self.trust, SMALL, (), plan))
        self.assertEqual(size + 4, self.trust.size())

    def test_the_least_members_are_in_the_certificate(self):
        told = carry_out(self.trust, SMALL, (), ((3, self.a), (2, self.a), (1, self.a), (0, self.a)))
        members = [self.trust.content(vote)[1] for vote in told[0][1]]
        self.assertEqual([0, 1, 2], sorted(members))

    def test_a_bad_plan_names_nothing(self):
        size = self.trust.size()
        for bad in (None, ((0, self.a), (0, self.b)), ((0, self.c),)):
            with self.assertRaises(BadPlan):
                carry_out(self.trust, SMALL, (), bad)
        self.assertEqual(size, self.trust.size())

    def test_long_plans(self):
        trust = Trust()
        bank = ((5, 5), 13, 4)
        names = sealed_chain(trust, bank, 400)
        plan = tuple((member, name) for name in names for member in range(13))
        self.assertEqual(tuple(names), booked_by(trust, bank, (), plan))
        self.assertFalse(is_plan(trust, bank, (), plan + plan[-1:]))

    def test_errors(self):
        ahead = [("trust", self.trust, BadTrust, BAD_TRUSTS), ("bank", SMALL, BadBank, BAD_BANKS),
                 ("liars", (1, 3), BadLiars, BAD_LIARS)]
        bads = [None, True, 0, [], list(self.booked), self.booked + self.booked[:1], ((0, self.c),), ((0, self.a), (0, self.b)),
                (self.booked,), {}, Trust(), "a"]
        check_errors(self, is_plan, ahead + [("value", self.booked, None, [])])
        check_errors(self, booked_by, ahead + [("plan", self.booked, BadPlan, bads)])
        check_errors(self, carry_out, ahead + [("plan", self.booked, BadPlan, bads)])


if __name__ == "__main__":
    unittest.main()
