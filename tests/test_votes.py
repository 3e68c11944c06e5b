"""[30], [31]: votes and certificates."""

import unittest
from itertools import combinations

from pursesapart import votes
from pursesapart.errors import BadBank, BadCertificate, BadTrust, BadVote
from pursesapart.trust import Trust
from tests.helpers import BAD_BANKS, BAD_TRUSTS, SMALL, THREE, certificate, check_errors, odd_values, pay, vote


class Votes(unittest.TestCase):
    def setUp(self):
        self.trust = Trust()
        self.x = pay(self.trust, 0, 1, 1, 5, None, None)

    def test_votes_of_all_members(self):
        for member in range(4):
            name = self.trust.name(("vote", member, self.x))
            self.assertIs(False, votes.is_vote(self.trust, SMALL, name))
            self.trust.seal(("member", member), name)
            self.assertIs(True, votes.is_vote(self.trust, SMALL, name))
            self.assertIs(True, votes.is_vote(self.trust, SMALL, name))

    def test_what_it_votes_for_may_be_wrong_and_not_sealed(self):
        junk = self.trust.name("junk")
        for content in ((0, 1, 1, 99, (None, None)), (0, 7, 1, 1, (None, None)), (1, 1, 0, 1, (junk, junk))):
            payment = self.trust.name(("pay", *content))
            self.assertIs(True, votes.is_vote(self.trust, SMALL, vote(self.trust, 0, payment)))

    def test_sealed_by_another_one(self):
        name = self.trust.name(("vote", 1, self.x))
        for who in (("member", 0), ("member", 2), ("owner", 1), ("owner", 0)):
            self.trust.seal(who, name)
        self.assertIs(False, votes.is_vote(self.trust, SMALL, name))
        self.trust.seal(("member", 1), name)
        self.assertIs(True, votes.is_vote(self.trust, SMALL, name))

    def test_no_votes(self):
        junk = self.trust.name("junk")
        contents = [
            ("vote", 4, self.x), ("vote", -1, self.x), ("vote", None, self.x), ("vote", "0", self.x), ("vote", 0),
            ("vote", 0, junk), ("vote", 0, None), ("vote", 0, 0), ("vote", 0, self.x, 0), ("votes", 0, self.x),
            (0, 0, self.x), ("vote", self.x, 0), "vote", 0, self.x, ("vote",), ("vote", 0, (self.x,)),
            ("vote", 0, ("pay", 0, 1, 1, 5, (None, None))), ("vote", (0,), self.x), (None, 0, self.x),
        ]
        for content in contents:
            name = self.trust.name(content)
            for member in range(5):
                self.trust.seal(("member", member), name)
            with self.subTest(content=content):
                self.assertIs(False, votes.is_vote(self.trust, SMALL, name))
        self.trust.seal(("member", 0), self.x)
        for value in odd_values() + [self.x, list(vote(self.trust, 0, self.x)), ()]:
            with self.subTest(value=value):
                self.assertIs(False, votes.is_vote(self.trust, SMALL, value))

    def test_votes_hang_on_the_bank(self):
        name = vote(self.trust, 3, self.x)
        late = vote(self.trust, 4, self.x)
        for _ in range(2):
            for bank, told in ((SMALL, [True, False]), (THREE, [False, False]), (((5, 0), 5, 1), [True, True]),
                               (((5, 0), 3, 0), [False, False])):
                self.assertEqual(told, [votes.is_vote(self.trust, bank, name), votes.is_vote(self.trust, bank, late)])

    def test_errors_in_sequence(self):
        name = vote(self.trust, 3, self.x)
        check_errors(self, votes.is_vote, [
            ("trust", self.trust, BadTrust, BAD_TRUSTS), ("bank", SMALL, BadBank, BAD_BANKS), ("name", name, None, [])])


class Certificates(unittest.TestCase):
    def setUp(self):
        self.trust = Trust()
        self.x = pay(self.trust, 0, 1, 1, 5, None, None)
        self.y = pay(self.trust, 0, 1, 1, 4, None, None)
        self.votes = [vote(self.trust, member, self.x) for member in (2, 0, 3, 1)]
        self.others = [vote(self.trust, member, self.y) for member in range(4)]

    def test_each_three_of_four(self):
        for some in combinations(self.votes, 3):
            self.assertIs(True, votes.is_certificate(self.trust, SMALL, (self.x, some)))
        members = {self.votes[0]: 2, self.votes[1]: 0, self.votes[2]: 3, self.votes[3]: 1}
        for some in combinations(self.votes, 3):
            told = votes.voters_of(self.trust, SMALL, (self.x, some))
            self.assertEqual(tuple(sorted(members[name] for name in some)), told)

    def no_certificates(self):
        """Values that are nearly certificates."""
        a, b, c, d = self.votes
        unsealed = self.trust.name(("vote", 0, pay(self.trust, 1, 1, 0, 5, None, None)))
        junk = self.trust.name("junk")
        return odd_values() + [
            (), (self.x,), (self.x, ()), (self.x, (a,)), (self.x, (a, b)), (self.x, (a, b, c, d)), (self.x, (b, a, c)),
            (self.x, (a, c, b)), (self.x, (a, a, b)), (self.x, (a, b, b)), [self.x, (a, b, c)], (self.x, [a, b, c]),
            (self.x, (a, b, c), 0), (self.y, (a, b, c)), (self.x, (a, b, self.others[3])), (junk, (a, b, c)),
            (self.x, (a, b, unsealed)), (self.x, (a, b, None)), (self.x, (a, b, junk)), (None, (a, b, c)),
            (list(self.x), (a, b, c)), (self.x, (a, b, list(c))), (self.x, a, b), (self.x, (a, b, self.x)),
            (("name", False), (a, b, c)), (self.x, (self.x, a, b)), ((a, b, c), self.x), {self.x: (a, b, c)},
            (("name", 10 ** 6), (a, b, c)), (self.x, (a, b, ("name", 10 ** 6))), (self.votes[0], (a, b, c)),
        ]

    def test_no_certificates(self):
        self.assertEqual(("name", 0), self.x)
        self.assertTrue(votes.is_certificate(self.trust, SMALL, (self.x, tuple(self.votes[:3]))))
        for value in self.no_certificates():
            with self.subTest(value=value):
                self.assertIs(False, votes.is_certificate(self.trust, SMALL, value))

    def test_true_is_no_number(self):
        trust = Trust()
        x = pay(trust, 0, 1, 1, 5, None, None)
        name = vote(trust, 0, x)
        bank = ((5, 0), 1, 0)
        self.assertEqual((("name", 0), ("name", 1)), (x, name))
        self.assertTrue(votes.is_certificate(trust, bank, (x, (name,))))
        self.assertFalse(votes.is_certificate(trust, bank, (("name", False), (name,))))
        self.assertFalse(votes.is_certificate(trust, bank, (x, (("name", True),))))
        self.assertEqual((x, (name,)), votes.certificate_of(trust, bank, x, [name]))
        self.assertIsNone(votes.certificate_of(trust, bank, ("name", False), [name]))

    def test_need_hangs_on_the_bank(self):
        whole = (self.x, tuple(sorted(self.votes)))
        for bank, told in ((((5, 0), 4, 0), True), (SMALL, False), (((5, 0), 5, 1), True), (((5, 0), 7, 2), False)):
            self.assertEqual(told, votes.is_certificate(self.trust, bank, whole))
        for at in range(4, 13):
            name = vote(self.trust, at, self.x)
            whole = (self.x, tuple(sorted(whole[1] + (name,))))
            self.assertTrue(votes.is_certificate(self.trust, ((5, 0), at + 1, 0), whole))
            self.assertEqual(tuple(range(at + 1)), votes.voters_of(self.trust, ((5, 0), at + 1, 0), whole))

    def test_two_votes_of_one_member_are_one_name(self):
        self.assertEqual(self.votes[1], vote(self.trust, 0, self.x))

    def test_errors_in_sequence(self):
        good = (self.x, tuple(self.votes[:3]))
        front = [("trust", self.trust, BadTrust, BAD_TRUSTS), ("bank", SMALL, BadBank, BAD_BANKS)]
        check_errors(self, votes.is_certificate, front + [("value", good, None, [])])
        check_errors(self, votes.voters_of, front + [("certificate", good, BadCertificate, self.no_certificates())])
        bad = [value for value in odd_values() if value != []] + [
            self.votes[0], [self.x], [None], self.votes + [self.x], self.votes + [True], [self.votes], {}, "vote",
            self.votes + [("name", 10 ** 6)], {self.votes[0]: True}, [list(self.votes[0])], ["name", 0],
        ]
        check_errors(self, votes.certificate_of, front + [
            ("payment", self.x, None, []), ("votes", self.votes, BadVote, bad)])

    def test_certificate_of_takes_the_least_members(self):
        a, b, c, d = self.votes
        for given in (self.votes, self.votes[::-1], self.votes * 3, tuple(self.votes), self.others + self.votes + self.others):
            kept = list(given)
            found = votes.certificate_of(self.trust, SMALL, self.x, given)
            self.assertEqual((self.x, (a, b, d)), found)
            self.assertEqual(kept, list(given))
            self.assertTrue(votes.is_certificate(self.trust, SMALL, found))
        self.assertEqual((self.x, (a, b, c)), votes.certificate_of(self.trust, SMALL, self.x, [c, b, a]))
        self.assertEqual((self.y, tuple(self.others[:3])),
                         votes.certificate_of(self.trust, SMALL, self.y, self.votes + self.others))

    def test_too_few_members(self):
        a, b = self.votes[:2]
        for given in ([], (), [a], [a, b], [a, b, a, b], [a, b] + self.others):
            self.assertIsNone(votes.certificate_of(self.trust, SMALL, self.x, given))

    def test_the_payment_may_be_any_value(self):
        for payment in odd_values() + [(), self.votes[0], self.trust.name("junk"), list(self.x)]:
            self.assertIsNone(votes.certificate_of(self.trust, SMALL, payment, self.votes))
        with self.assertRaises(BadVote):
            votes.certificate_of(self.trust, SMALL, None, [None])

    def test_two_certificates_have_many_members_in_common(self):
        one = certificate(self.trust, (0, 1, 2), self.x)
        other = certificate(self.trust, (1, 2, 3), self.y)
        common = set(votes.voters_of(self.trust, SMALL, one)) & set(votes.voters_of(self.trust, SMALL, other))
        self.assertEqual({1, 2}, common)


if __name__ == "__main__":
    unittest.main()
