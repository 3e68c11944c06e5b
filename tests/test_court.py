"""[70]: who is named by votes and certificates."""

import random
import unittest
from itertools import combinations

from pursesapart.court import clash_lots, clash_papers, named, wrong_papers
from pursesapart.errors import BadBank, BadCertificate, BadMembers, BadTrust, BadVote, NoClash
from pursesapart.papers import convicted, paper_of, wrong_paper
from pursesapart.trust import Trust
from pursesapart.votes import voters_of
from tests.helpers import BAD_BANKS, BAD_TRUSTS, LONG, SMALL, THREE, bent_certificates, certificate, check_errors
from tests.helpers import check_raises, odd_values, pay, vote, votes
from tests.webs import grow

BANKS = [((5,), members, lies) for members in range(1, 8) for lies in range(3) if members >= 3 * lies + 1]


def plain_named(trust, bank, listed):
    """By all single votes and all pairs of votes of each member."""
    found = []
    for member in range(bank[1]):
        own = sorted({name for name in listed if trust.content(name)[1] == member})
        wrong = [wrong_paper(trust, bank, name) for name in own if wrong_paper(trust, bank, name)]
        twice = [paper_of(trust, bank, *pair) for pair in combinations(own, 2) if paper_of(trust, bank, *pair)]
        if wrong or twice:
            found.append((member, (wrong + twice)[0]))
    return tuple(found)


class Court(unittest.TestCase):
    def setUp(self):
        self.trust = Trust()
        self.a = pay(self.trust, 0, 1, 1, 5, None, None)
        self.b = pay(self.trust, 0, 1, 1, 4, None, None)
        self.poor = pay(self.trust, 0, 1, 1, 6, None, None)
        self.next = pay(self.trust, 0, 2, 1, 1, self.b, None)

    def test_nobody_is_named(self):
        listed = votes(self.trust, (0, 1, 2, 3), self.b) + votes(self.trust, (0, 1), self.next)
        for some in ([], (), listed, listed + listed, tuple(listed)):
            self.assertEqual((), named(self.trust, SMALL, some))
        self.assertEqual((), named(self.trust, SMALL, votes(self.trust, (0,), self.a) + votes(self.trust, (1,), self.b)))

    def test_twice(self):
        one, other = vote(self.trust, 2, self.b), vote(self.trust, 2, self.a)
        for listed in ([one, other], [other, one, other], [vote(self.trust, 0, self.a), other, one]):
            self.assertEqual(((2, ("twice", one, other)),), named(self.trust, SMALL, listed))

    def test_wrong_comes_ahead_of_twice(self):
        one, other, wrong = [vote(self.trust, 1, payment) for payment in (self.a, self.b, self.poor)]
        for listed in ([one, other, wrong], [wrong, other], [wrong]):
            self.assertEqual(((1, ("wrong", wrong)),), named(self.trust, SMALL, listed))
        self.assertEqual(((1, ("twice", one, other)),), named(self.trust, SMALL, [other, one]))

    def test_the_least_of_all(self):
        third = pay(self.trust, 0, 1, 1, 1, None, None)
        late = pay(self.trust, 0, 2, 1, 2, None, None)
        v = {payment: vote(self.trust, 3, payment) for payment in (third, self.b, late, self.a, self.poor)}
        self.assertEqual(((3, ("wrong", v[late])),), named(self.trust, SMALL, list(v.values())))
        self.assertEqual(((3, ("twice", v[third], v[self.b])),), named(self.trust, SMALL, [v[self.a], v[self.b], v[third]]))
        self.assertEqual(((3, ("twice", v[third], v[self.a])),), named(self.trust, SMALL, [v[self.a], v[third]]))

    def test_least_pair_over_several_numbers(self):
        c = pay(self.trust, 0, 2, 1, 2, self.a, None)
        self.assertTrue(wrong_paper(self.trust, SMALL, vote(self.trust, 0, c)))
        d = pay(self.trust, 0, 2, 0, 1, self.b, None)
        first, one, other, last = [vote(self.trust, 2, payment) for payment in (self.next, self.a, self.b, d)]
        listed = [last, other, one, first]
        self.assertEqual(((2, ("twice", first, last)),), named(self.trust, SMALL, listed))

    def test_several_members_stand_in_their_sequence(self):
        listed = votes(self.trust, (3, 2, 1), self.b) + votes(self.trust, (1, 3), self.a) + votes(self.trust, (0,), self.poor)
        self.assertEqual([0, 1, 3], [pair[0] for pair in named(self.trust, SMALL, listed)])

    def test_webs(self):
        told = 0
        for seed in range(60):
            plain, names = grow(seed, THREE, 6, poor=0.1, bent=0.1)
            dice = random.Random(seed)
            listed = [vote(plain.trust, dice.randrange(4), name) for name in names if plain.parts(name) for _ in range(3)]
            result = named(plain.trust, THREE, listed)
            told += len(result)
            self.assertEqual(plain_named(plain.trust, THREE, listed), result)
            for member, paper in result:
                self.assertEqual(member, convicted(plain.trust, THREE, paper))
        self.assertGreater(told, 30)

    def test_clash_papers(self):
        one, other = certificate(self.trust, (0, 1, 2), self.a), certificate(self.trust, (1, 2, 3), self.b)
        told = tuple((member, ("twice", vote(self.trust, member, self.a), vote(self.trust, member, self.b))) for member in (1, 2))
        self.assertEqual(told, clash_papers(self.trust, SMALL, one, other))
        self.assertEqual(told, clash_papers(self.trust, SMALL, other, one))

    def test_papers_of_payments_that_are_not_right(self):
        one, other = certificate(self.trust, (0, 1, 2), self.poor), certificate(self.trust, (0, 2, 3), self.b)
        self.assertEqual([0, 2], [pair[0] for pair in clash_papers(self.trust, SMALL, one, other)])
        told = tuple((member, ("wrong", vote(self.trust, member, self.poor))) for member in (0, 1, 2))
        self.assertEqual(told, wrong_papers(self.trust, SMALL, one))
        self.assertEqual((), wrong_papers(self.trust, SMALL, other))

    def test_members_are_told_in_their_sequence(self):
        trust = Trust()
        a, b = pay(trust, 0, 1, 1, 5, None, None), pay(trust, 0, 1, 1, 6, None, None)
        for payment, row in ((a, (3, 0, 2, 1)), (b, (2, 3, 1, 0))):
            for member in row:
                vote(trust, member, payment)
        one, other = certificate(trust, (3, 0, 2), a), certificate(trust, (2, 3, 0), b)
        self.assertEqual([0, 2, 3], [pair[0] for pair in clash_papers(trust, SMALL, one, other)])
        self.assertEqual([0, 2, 3], [pair[0] for pair in wrong_papers(trust, SMALL, other)])

    def test_no_clash(self):
        one = certificate(self.trust, (0, 1, 2), self.b)
        for payment in (self.next, pay(self.trust, 1, 1, 0, 1, self.b, None), self.b):
            check_raises(self, NoClash, clash_papers, [self.trust, SMALL, one, certificate(self.trust, (1, 2, 3), payment)])
        check_raises(self, NoClash, clash_papers, [self.trust, SMALL, one, one])

    def test_so_many_are_named_at_least(self):
        for bank in [((5, 0), members, lies) for members in range(4, 8) for lies in (1, 2) if members >= 3 * lies + 1]:
            need, least = bank[1] - bank[2], bank[1] - 2 * bank[2]
            trust = Trust()
            a, poor = pay(trust, 0, 1, 1, 5, None, None), pay(trust, 0, 1, 1, 6, None, None)
            for members in combinations(range(bank[1]), need):
                one = certificate(trust, range(need), a)
                other = certificate(trust, members, poor)
                told = [pair[0] for pair in clash_papers(trust, bank, one, other)]
                self.assertEqual([member for member in members if member < need], told)
                self.assertGreaterEqual(len(told), least)
                self.assertEqual(voters_of(trust, bank, other), tuple(pair[0] for pair in wrong_papers(trust, bank, other)))

    def test_clash_lots_of_all_members(self):
        for bank in BANKS:
            need = bank[1] - bank[2]
            lots = list(combinations(range(bank[1]), need))
            possible = {tuple(sorted(set(one) & set(other))) for one in lots for other in lots}
            for many in range(bank[1] + 1):
                for members in combinations(range(bank[1]), many):
                    told = clash_lots(bank, members)
                    self.assertEqual(members in possible, told is not None)
                    self.assertEqual(bank[1] - 2 * bank[2] <= many <= need, told is not None)
                    if told is not None:
                        self.assertIn(told[0], lots)
                        self.assertIn(told[1], lots)
                        self.assertEqual(members, tuple(sorted(set(told[0]) & set(told[1]))))
                        self.assertIsInstance(told, tuple)

    def test_clash_lots_example(self):
        self.assertEqual({(0, 1, 2), (1, 2, 3)}, set(clash_lots(SMALL, (1, 2))))
        self.assertIsNone(clash_lots(SMALL, (1,)))

    def test_errors(self):
        ahead = [("trust", self.trust, BadTrust, BAD_TRUSTS), ("bank", SMALL, BadBank, BAD_BANKS)]
        good = votes(self.trust, (0, 1, 2), self.a)
        unsealed = self.trust.name(("vote", 3, self.a))
        bads = [None, True, 0, "ab", {}, {good[0]: True}, good[0], [self.a], [unsealed], good + [unsealed], [good], Trust()]
        bads += [[value] for value in odd_values()]
        check_errors(self, named, ahead + [("votes", good, BadVote, bads)])
        one, other = certificate(self.trust, (0, 1, 2), self.a), certificate(self.trust, (0, 1, 2), self.b)
        bent_one, bent_other = bent_certificates(self.trust, one), bent_certificates(self.trust, other)
        check_errors(self, clash_papers, ahead + [("one", one, BadCertificate, bent_one),
                                                  ("other", other, BadCertificate, bent_other)])
        check_errors(self, wrong_papers, ahead + [("certificate", one, BadCertificate, bent_one)])
        no_members = [None, True, 0, [1, 2], (1, 1), (2, 1), (4,), (-1,), (True, 2), (0, True), (None,), ("1",), ((1,),),
                      (1, 2, 4), {1: 2}, {}, "ab", (LONG,), (False, 1), Trust(), ([],)]
        check_errors(self, clash_lots, [("bank", SMALL, BadBank, BAD_BANKS), ("members", (1, 2), BadMembers, no_members)])


if __name__ == "__main__":
    unittest.main()
