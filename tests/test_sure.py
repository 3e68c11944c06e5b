"""[100], [101]: from votes that are known to what will be, if few members lie."""

import random
import unittest

from pursesapart.errors import BadBank, BadPayment, BadPayments, BadTrust, BadVotes, MoreLie
from pursesapart.sure import is_may, is_sure, liars_in, may_be_booked, surely_booked
from pursesapart.trust import Trust
from pursesapart.votes import certificate_of
from tests.bends import bends
from tests.helpers import BAD_BANKS, BAD_TRUSTS, SMALL, check_errors, odd_values, paid, pay, sealed_chain, vote, votes
from tests.plain import Plain
from tests.plain_sure import Goings, PlainKnown
from tests.test_plans import some_plan
from tests.webs import grow

BANKS = [((6, 2), 4, 1), ((6, 2, 0), 7, 2), ((4, 1), 4, 1), ((5, 0), 5, 1), ((5, 3), 3, 0), ((9, 9), 10, 3)]
# Clashes are wanted on purpose: payments of one place that members vote for, each as it likes.
TORN = ((7, 3), 7, 2)


def drawn(seed, banks=None, most=9):
    """A plain view, the names of a web, and votes that are known, from a plan and beside it."""
    dice = random.Random(seed)
    bank = dice.choice(banks or BANKS)
    plain, names = grow(seed, bank, dice.randrange(3, most), poor=0.03)
    for name in names:
        plain.trust.seal(("owner", plain.place(name)[0]), name)
    liars = tuple(sorted(dice.sample(range(bank[1]), dice.randrange(bank[2] + 2))))
    plan = some_plan(dice, plain, names, liars, dice.randrange(3 * bank[1]))
    kept = dice.choice([0.5, 0.9])
    steps = [step for step in plan if dice.random() < kept]
    for _ in range(dice.choice([0, 0, 1, 2, bank[1]])):
        steps.append((dice.randrange(bank[1]), dice.choice(names)))
    return plain, names, [vote(plain.trust, member, name) for member, name in steps]


def torn(seed):
    """A plain view, payments of a few places that clash and see one another, and a vote of most members for each place."""
    dice = random.Random(seed)
    trust = Trust()
    plain = Plain(trust, TORN)
    firsts = [paid(trust, 0, 1, 1, amount, None, None) for amount in (1, 2)]
    others = [paid(trust, 1, 1, 0, amount, None, None) for amount in (1, 2)]
    seconds = [paid(trust, 0, 2, 1, 1, first, other) for first in firsts for other in (None, others[0])]
    seconds += [paid(trust, 1, 2, 0, 1, None, other) for other in others]
    known = []
    for member in range(7):
        for place in (firsts, others, seconds[:4], seconds[4:]):
            if dice.random() < 0.6:
                known.append(vote(trust, member, dice.choice(place)))
    return plain, firsts + others + seconds, known


class Sure(unittest.TestCase):
    def setUp(self):
        self.trust = Trust()
        self.a = paid(self.trust, 0, 1, 1, 5, None, None)
        self.b = paid(self.trust, 0, 1, 1, 4, None, None)
        self.c = paid(self.trust, 1, 1, 0, 2, self.a, None)
        self.d = paid(self.trust, 1, 1, 0, 1, self.b, None)

    def known(self, *pairs):
        return [vote(self.trust, member, payment) for member, payment in pairs]

    def test_liars_in(self):
        poor = paid(self.trust, 0, 1, 1, 6, None, None)
        known = self.known((3, self.a), (3, self.b), (0, self.a), (1, poor), (2, self.c))
        self.assertEqual((1, 3), liars_in(self.trust, SMALL, known))
        self.assertEqual((3,), liars_in(self.trust, SMALL, tuple(known[:2] * 2)))
        self.assertEqual((), liars_in(self.trust, SMALL, known[1:3]))
        self.assertEqual((), liars_in(self.trust, SMALL, []))

    def test_nothing_is_known(self):
        for payments in ([], [self.a], (self.c, self.a, self.c)):
            self.assertEqual("can", may_be_booked(self.trust, SMALL, [], payments)[0])
            for liars in ((), (0,), (3,)):
                self.assertTrue(is_may(self.trust, SMALL, [], payments, ("can", liars)))
            self.assertFalse(is_may(self.trust, SMALL, [], payments, ("never", None)))
        self.assertEqual("open", surely_booked(self.trust, SMALL, (), self.a)[0])

    def test_against_what_is_wanted(self):
        """Two may clash with it, one of whom lies; three cannot all lie."""
        known = self.known((0, self.b), (1, self.b))
        self.assertIn(may_be_booked(self.trust, SMALL, known, [self.a]), [("can", (0,)), ("can", (1,))])
        self.assertFalse(is_may(self.trust, SMALL, known, [self.a], ("can", ())))
        self.assertFalse(is_may(self.trust, SMALL, known, [self.a], ("can", (2,))))
        known += self.known((2, self.b))
        told = may_be_booked(self.trust, SMALL, known, [self.a])
        self.assertEqual("never", told[0])
        self.assertTrue(is_may(self.trust, SMALL, known, [self.a], told))
        leaf = ((0, None), (1, None))
        tree = (("against", self.a, None), ((0, (("against", self.a, None), ((1, None), (2, None)))),
                                            (1, (("against", self.a, None), ((2, None), (0, None))))))
        self.assertTrue(is_may(self.trust, SMALL, known, [self.a], ("never", tree)))
        self.assertFalse(is_may(self.trust, SMALL, known, [self.a], ("never", (tree[0], leaf))))
        self.assertEqual("can", may_be_booked(self.trust, SMALL, known, [self.b])[0])

    def test_what_votes_owe_clashes(self):
        """Who voted for c has booked a; who voted for d has booked b; at most one of the two keeps to its rules."""
        known = self.known((0, self.c), (1, self.d))
        self.assertIn(may_be_booked(self.trust, SMALL, known, []), [("can", (0,)), ("can", (1,))])
        self.assertTrue(is_may(self.trust, SMALL, known, [], ("can", (1,))))
        self.assertFalse(is_may(self.trust, SMALL, known, [], ("can", ())))
        known += self.known((2, self.c), (3, self.d))
        told = may_be_booked(self.trust, SMALL, known, [])
        self.assertEqual("never", told[0])
        self.assertEqual("clash", told[1][0][0])
        self.assertTrue(is_may(self.trust, SMALL, known, [], told))

    def test_one_member_owes_both(self):
        """One branch is enough where one member's votes owe two payments that clash."""
        e = paid(self.trust, 0, 2, 0, 1, self.b, None)
        known = self.known((0, self.c), (0, e))
        self.assertEqual((), liars_in(self.trust, SMALL, known))
        self.assertEqual(("can", (0,)), may_be_booked(self.trust, SMALL, known, []))
        self.assertEqual("never", may_be_booked(self.trust, SMALL, known + self.known((1, self.c), (1, e)), [])[0])

    def test_who_is_against_what_it_owes(self):
        """Member 0 voted for b, and later for c, which has a in its past: it may be one of those against a, or not."""
        known = self.known((0, self.b), (0, self.c), (1, self.b), (2, self.b))
        told = may_be_booked(self.trust, SMALL, known, [])
        self.assertEqual(("can", (0,)), told)
        known += self.known((3, self.c))
        told = may_be_booked(self.trust, SMALL, known, [])
        self.assertEqual("never", told[0])
        self.assertTrue(is_may(self.trust, SMALL, known, [], told))
        reason = ("against", self.a, known[1])
        of_three = (("against", self.a, known[4]), ((1, None), (2, None), (3, None)))
        of_two = (("against", self.a, None), ((1, None), (2, None)))
        other = (("against", self.a, known[1]), ((0, None), (2, None)))
        third = (("against", self.a, known[1]), ((0, None), (1, None)))
        right = (reason, ((0, of_three), (1, other)))
        self.assertTrue(is_may(self.trust, SMALL, known, [], ("never", right)))
        self.assertTrue(is_may(self.trust, SMALL, known, [], ("never", (reason, ((0, of_three), (1, other), (2, third))))))
        for tree in [(reason, ((0, of_two), (1, other))), (reason, ((1, other), (2, third))), (reason, ((0, of_three),)),
                     (reason, ((0, of_three), (1, other), (3, of_two)))]:
            self.assertFalse(is_may(self.trust, SMALL, known, [], ("never", tree)))

    def test_more_lie(self):
        known = self.known((2, self.a), (2, self.b), (0, self.b), (0, self.a))
        for function, rest in [(may_be_booked, [[self.a]]), (may_be_booked, [None]), (is_may, [None, None]),
                               (surely_booked, [self.a]), (surely_booked, [None]), (is_sure, [None, None])]:
            with self.assertRaises(MoreLie) as caught:
                function(self.trust, SMALL, known, *rest)
            self.assertEqual((0, 2), caught.exception.liars)
        self.assertEqual("can", may_be_booked(self.trust, SMALL, known[:2], [self.a])[0])

    def test_surely(self):
        """A payee with one vote for a later payment is not sure; with two of unlike members it is."""
        self.assertEqual("open", surely_booked(self.trust, SMALL, self.known((0, self.c)), self.a)[0])
        known = self.known((0, self.c), (1, self.c))
        self.assertEqual(("sure", None), surely_booked(self.trust, SMALL, known, self.a))
        self.assertTrue(is_sure(self.trust, SMALL, known, self.a, ("sure", None)))
        self.assertFalse(is_sure(self.trust, SMALL, known, self.a, ("open", (0,))))
        self.assertFalse(is_sure(self.trust, SMALL, known, self.a, ("votes",)))
        self.assertEqual("open", surely_booked(self.trust, SMALL, known, self.c)[0])
        self.assertEqual("open", surely_booked(self.trust, SMALL, known, self.b)[0])
        known = votes(self.trust, (3, 1, 0), self.a)
        self.assertEqual(("votes",), surely_booked(self.trust, SMALL, known, self.a))
        self.assertTrue(is_sure(self.trust, SMALL, known, self.a, ("votes",)))
        self.assertFalse(is_sure(self.trust, SMALL, known, self.a, ("open", ())))
        self.assertEqual("open", surely_booked(self.trust, SMALL, known[:2] * 3, self.a)[0])

    def test_convicted_members_count_for_nothing(self):
        """Member 2 is convicted; so one vote of another member for a later payment is enough."""
        known = self.known((2, self.a), (2, self.b), (0, self.c))
        self.assertEqual(("sure", None), surely_booked(self.trust, SMALL, known, self.a))
        self.assertEqual(("open", (2,)), surely_booked(self.trust, SMALL, known, self.c))

    def test_enough_votes_of_convicted_members(self):
        known = self.known((2, self.a), (2, self.b), (0, self.a), (1, self.a))
        self.assertEqual(("votes",), surely_booked(self.trust, SMALL, known, self.a))

    def test_what_is_named_later_changes_nothing(self):
        known = self.known((0, self.b), (1, self.b), (2, self.b))
        told = may_be_booked(self.trust, SMALL, known, [self.a])
        votes(self.trust, range(4), self.a)
        paid(self.trust, 0, 1, 0, 1, None, None)
        self.assertEqual(told, may_be_booked(self.trust, SMALL, known, [self.a]))
        self.assertTrue(is_may(self.trust, SMALL, known, [self.a], told))

    def test_votes_for_what_is_not_sealed_by_its_owner_count(self):
        loose = pay(self.trust, 0, 1, 0, 1, None, None)
        known = self.known((0, loose), (1, loose), (3, loose))
        self.assertEqual("never", may_be_booked(self.trust, SMALL, known, [self.a])[0])
        self.assertEqual(("votes",), surely_booked(self.trust, SMALL, known, loose))

    def test_webs_against_the_words(self):
        found = {}
        for seed in range(500):
            plain, names, known = drawn(seed) if seed % 2 else torn(seed)
            dice = random.Random(-seed)
            right = [name for name in names if plain.fault(name) is None]
            wanted = dice.sample(right, min(len(right), dice.randrange(3)))
            if plain.clashes(set().union(*[plain.past(name) for name in wanted])):
                wanted = wanted[:1]
            self.check_may(plain, known, wanted, found, seed)
            for payment in right[:1] + right[-1:]:
                self.check_sure(plain, known, payment, found)
        self.assertGreater(min(found.values()), 15, found)
        self.assertEqual({"more", "can", "never", "votes", "sure", "open"}, set(found))

    def check_may(self, plain, known, wanted, found, seed):
        words = PlainKnown(plain, known, wanted)
        self.assertEqual(words.liars(), liars_in(plain.trust, plain.bank, known))
        if len(words.liars()) > plain.bank[2]:
            found["more"] = found.get("more", 0) + 1
            with self.assertRaises(MoreLie) as caught:
                may_be_booked(plain.trust, plain.bank, known, wanted)
            self.assertEqual(words.liars(), caught.exception.liars)
            return
        told = may_be_booked(plain.trust, plain.bank, known, wanted)
        found[told[0]] = found.get(told[0], 0) + 1
        self.assertEqual(bool(words.possible(words.liars())), told[0] == "can")
        self.assertTrue(words.is_may(told), told)
        self.assertTrue(is_may(plain.trust, plain.bank, known, wanted, told))
        for lot in words.possible(words.liars()):
            self.assertTrue(is_may(plain.trust, plain.bank, known, wanted, ("can", lot)))

    def check_sure(self, plain, known, payment, found):
        words = PlainKnown(plain, known, [])
        if len(words.liars()) > plain.bank[2]:
            return
        told = surely_booked(plain.trust, plain.bank, known, payment)
        found[told[0]] = found.get(told[0], 0) + 1
        self.assertTrue(words.is_sure(payment, told), told)
        self.assertTrue(is_sure(plain.trust, plain.bank, known, payment, told))
        if told[0] != "votes":
            first = set(words.liars()) | words.later_voters(payment)
            self.assertEqual(bool(words.possible(first)), told[0] == "open")
        else:
            self.assertIsNotNone(certificate_of(plain.trust, plain.bank, payment, known))

    def test_bent_trees_against_the_words(self):
        found = {}
        for seed in range(400):
            plain, names, known = torn(seed) if seed % 2 else drawn(seed, [((6, 2), 4, 1)])
            words = PlainKnown(plain, known, [])
            right = [name for name in names if plain.fault(name) is None]
            if len(words.liars()) > plain.bank[2] or found.get("never", 0) + found.get("sure", 0) > 16 or not right:
                continue
            dice = random.Random(seed)
            wanted = right[-1:]
            told = may_be_booked(plain.trust, plain.bank, known, wanted)
            if told[0] == "never" or seed % 30 == 0:
                words = PlainKnown(plain, known, wanted)
                found[told[0]] = found.get(told[0], 0) + 1
                others = [None, 0, 3, True, "open", dice.choice(names), dice.choice(known or names), (), []]
                for value in list(bends(told, others))[:4000:3]:
                    same = is_may(plain.trust, plain.bank, known, wanted, value)
                    self.assertEqual(words.is_may(value), same, value)
                    found[same] = found.get(same, 0) + 1
            told = surely_booked(plain.trust, plain.bank, known, right[0])
            if told[0] == "sure" and told[1] is not None or seed % 30 == 0:
                words = PlainKnown(plain, known, [])
                found[told[0]] = found.get(told[0], 0) + 1
                others = [None, 1, False, "sure", "votes", dice.choice(names), (0,)]
                for value in list(bends(told, others))[:4000:3]:
                    same = is_sure(plain.trust, plain.bank, known, right[0], value)
                    self.assertEqual(words.is_sure(right[0], value), same, value)
        self.assertGreater(found["never"], 8, found)
        self.assertGreater(found[True], 50, found)
        self.assertGreater(found[False], 500, found)

    def test_what_can_go_on(self):
        """The HEART lines: a possible lot tells votes that go on, a tree that there are none, whoever lies."""
        found = {}
        for seed in range(260):
            plain, names, known = drawn(seed, [((6, 2), 4, 1), ((5, 3), 3, 0)], 6)
            words = PlainKnown(plain, known, [])
            right = [name for name in names if plain.fault(name) is None]
            if len(words.liars()) > plain.bank[2] or not right:
                continue
            payment = random.Random(seed).choice(right)
            words = PlainKnown(plain, known, [payment])
            told = may_be_booked(plain.trust, plain.bank, known, [payment])
            found[told[0]] = found.get(told[0], 0) + 1
            if told[0] == "can":
                self.assertTrue(self.goes_on(words, told[1], right, words.owed(told[1])), seed)
            else:
                for liars in [()] + [(member,) for member in range(plain.bank[1])][:99 * plain.bank[2]]:
                    self.assertFalse(self.goes_on(words, liars, right, {payment}), seed)
            self.check_sure_goes_on(plain, known, right, payment, found)
        self.assertGreater(min(found.values()), 5, found)

    def goes_on(self, words, liars, right, wanted):
        given = {(member, name) for member, name in words.ballots.values() if member not in liars}
        return Goings(words.plain, liars, right).reach(given, wanted)

    def check_sure_goes_on(self, plain, known, right, payment, found):
        words = PlainKnown(plain, known, [])
        told = surely_booked(plain.trust, plain.bank, known, payment)
        found[told[0]] = found.get(told[0], 0) + 1
        if told[0] == "open":
            self.assertTrue(self.goes_on(words, told[1], right, set()))
            self.assertLessEqual(words.later_voters(payment), set(told[1]))
        if told[0] == "sure":
            # Whoever lies, if that can be at all, some other member voted for what it must have booked it for.
            for liars in [()] + [(member,) for member in range(plain.bank[1])][:99 * plain.bank[2]]:
                if self.goes_on(words, liars, right, set()):
                    self.assertGreater(words.later_voters(payment) - set(liars), set())

    def test_thirteen_members(self):
        """Many votes for long pasts, and as many against the first payment as make the greatest trees."""
        bank = ((500, 500, 500), 13, 4)
        names = sealed_chain(self.trust, bank, 120)
        rival = paid(self.trust, 0, 1, 1, 2, None, None, None)
        known = [vote(self.trust, member, name) for member in range(13) for name in names[1:]]
        known += votes(self.trust, range(9), rival)
        for wanted in ([], [names[0]], [names[-1]]):
            told = may_be_booked(self.trust, bank, known, wanted)
            self.assertEqual("never", told[0])
            self.assertTrue(is_may(self.trust, bank, known, wanted, told))
        told = surely_booked(self.trust, bank, known[:-1], names[0])
        self.assertEqual(("sure", None), told)
        self.assertEqual(("can", (0, 1, 2, 3)), may_be_booked(self.trust, bank, votes(self.trust, range(8), rival),
                                                                [names[-1]]))

    def test_odd_values(self):
        known = self.known((0, self.b), (1, self.b), (2, self.b))
        for value in odd_values() + [("can", None), ("never", None), ("can", [0]), ["can", (0,)], ("can", (True,)),
                                     ("can", (0, 1)), ("can", (4,)), ("open", ()), ("votes",), ("sure", None)]:
            with self.subTest(value=value):
                self.assertIs(False, is_may(self.trust, SMALL, known, [self.a], value))
                self.assertEqual(value == ("votes",), is_sure(self.trust, SMALL, known, self.b, value))

    def test_lots_told_as_they_should_be(self):
        """Nothing is known: each lot of at most lies members is possible, if it is told as an ascending tuple."""
        bank = ((5, 0), 7, 2)
        for liars in [(), (0,), (6,), (0, 6), (3, 4)]:
            self.assertTrue(is_may(self.trust, bank, [], [self.a], ("can", liars)))
            self.assertTrue(is_sure(self.trust, bank, [], self.a, ("open", liars)))
        for liars in [None, 0, [], [0], (1, 0), (1, 1), (7,), (-1,), (True,), (0, True), (False,), (None,), ("0",), ((0,),),
                      (0, 1, 2), {}, "", "01"]:
            self.assertFalse(is_may(self.trust, bank, [], [self.a], ("can", liars)), liars)
            self.assertFalse(is_sure(self.trust, bank, [], self.a, ("open", liars)), liars)
        for value in [(), ("can",), ("can", (), None), ("never",), ("never", None, None), ["can", ()], ((), "can"), ("open", ())]:
            self.assertFalse(is_may(self.trust, bank, [], [self.a], value), value)
        for value in [(), ("open",), ("open", (), None), ("sure",), ("sure", None, None), ["open", ()], ("votes",), ("can", ())]:
            self.assertFalse(is_sure(self.trust, bank, [], self.a, value), value)
        known = votes(self.trust, range(5), self.a)
        for value in [(), ("votes", None), ("votes", ()), ["votes"], "votes", (("votes",),), ("vote",), ("open", ()), ("sure",),
                      ("open",), ("sure", None)]:
            self.assertFalse(is_sure(self.trust, bank, known, self.a, value), value)
        self.assertTrue(is_sure(self.trust, bank, known, self.a, ("votes",)))

    def test_a_vote_shows_only_what_is_below_its_payment(self):
        """Two votes for a, two for b: nobody owes either, and a vote for b shows nothing of b itself."""
        known = self.known((0, self.a), (1, self.a), (2, self.b), (3, self.b))
        self.assertEqual("can", may_be_booked(self.trust, SMALL, known, [])[0])
        bank = ((5, 0), 4, 0)
        self.assertEqual(("can", ()), may_be_booked(self.trust, bank, known, []))
        leaves = {member: (member, None) for member in range(4)}
        for reason, members in [(("against", self.a, known[0]), (0, 2)), (("against", self.b, known[2]), (1, 2)),
                                (("against", self.a, None), (2,)), (("clash", self.a, self.b, known[0], known[2]), (0, 2))]:
            tree = (reason, tuple(leaves[member] for member in members))
            self.assertFalse(is_may(self.trust, bank, known, [], ("never", tree)))
            self.assertFalse(is_sure(self.trust, bank, known, self.c, ("sure", tree)))
        # With a vote for c, which has a below, the first of them is right.
        known += self.known((0, self.c))
        tree = (("against", self.a, known[4]), (leaves[0], leaves[2]))
        self.assertTrue(is_may(self.trust, bank, known, [], ("never", tree)))
        self.assertTrue(is_sure(self.trust, bank, known, self.c, ("sure", tree)))
        tree = (("against", self.a, known[0]), (leaves[0], leaves[2]))
        self.assertFalse(is_may(self.trust, bank, known, [], ("never", tree)))

    def test_a_payment_does_not_clash_with_itself(self):
        """Member 0 voted for c, so it owes a; a and a are no clash, though both are shown."""
        known = self.known((0, self.c), (1, self.d), (2, self.c), (3, self.d))
        told = may_be_booked(self.trust, SMALL, known, [])
        self.assertEqual("never", told[0])
        below = (("clash", self.a, self.b, known[2], known[1]), ((2, None), (1, None)))
        other = (("clash", self.a, self.b, known[0], known[3]), ((0, None), (3, None)))
        first = ("clash", self.a, self.b, known[0], known[1])
        self.assertTrue(is_may(self.trust, SMALL, known, [], ("never", (first, ((0, below), (1, other))))))
        for reason in [("clash", self.a, self.a, known[0], known[2]), ("clash", self.a, self.b, known[0], known[0]),
                       ("clash", self.b, self.a, known[0], known[1]), ("clash", self.a, self.b, known[0], None)]:
            members = sorted({self.trust.content(vote_name)[1] for vote_name in reason[3:] if vote_name is not None})
            branches = tuple((member, {0: below, 1: other, 2: other}[member]) for member in members)
            self.assertFalse(is_may(self.trust, SMALL, known, [], ("never", (reason, branches))))
        same = (("clash", self.a, self.a, known[0], known[2]), ((0, below), (2, told[1][1][0][1])))
        self.assertFalse(is_may(self.trust, SMALL, known, [], ("never", same)))

    def test_errors(self):
        known = self.known((0, self.a))
        bad_votes = [None, 0, "ab", {}, self.a, [self.a], [None], [known[0], True], ["name"], [[]], [("name", True)],
                     [self.trust.name(("vote", 1, self.a))], [known], self.trust]
        bad_payments = [None, 0, "ab", {}, [None], [self.a, True], [self.a, self.b], [self.d, self.c], [known[0]],
                        [pay(self.trust, 0, 1, 1, 6, None, None)], [self.trust.name("pay")], [[self.a]],
                        [("name", self.trust.size())]]
        first = [("trust", self.trust, BadTrust, BAD_TRUSTS), ("bank", SMALL, BadBank, BAD_BANKS),
                 ("known", known, BadVotes, bad_votes)]
        check_errors(self, liars_in, first)
        check_errors(self, may_be_booked, first + [("payments", [self.a], BadPayments, bad_payments)])
        check_errors(self, is_may, first + [("payments", (self.a,), BadPayments, bad_payments), ("value", 0, None, [])])
        bad = [item for item in odd_values() if item != self.a] + [pay(self.trust, 0, 1, 1, 7, None, None), known[0]]
        check_errors(self, surely_booked, first + [("payment", self.a, BadPayment, bad)])
        check_errors(self, is_sure, first + [("payment", self.a, BadPayment, bad), ("value", 0, None, [])])

    def test_nothing_is_changed(self):
        known, wanted = self.known((0, self.b), (1, self.b)), [self.a, self.c]
        size = self.trust.size()
        told = may_be_booked(self.trust, SMALL, known, wanted)
        is_may(self.trust, SMALL, known, wanted, told)
        surely_booked(self.trust, SMALL, known, self.a)
        self.assertEqual((self.known((0, self.b), (1, self.b)), [self.a, self.c]), (known, wanted))
        self.assertEqual(size, self.trust.size())


if __name__ == "__main__":
    unittest.main()
