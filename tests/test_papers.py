"""[32], [33]: papers that convict."""

import unittest
from itertools import combinations

from pursesapart import papers
from pursesapart.errors import BadBank, BadPaper, BadTrust, BadVote
from pursesapart.trust import Trust
from pursesapart.votes import is_certificate
from tests.helpers import BAD_BANKS, BAD_TRUSTS, SMALL, THREE, certificate, check_errors, odd_values, pay, vote


class Papers(unittest.TestCase):
    def setUp(self):
        self.trust = Trust()
        self.a = pay(self.trust, 0, 1, 1, 5, None, None)
        self.b = pay(self.trust, 0, 1, 1, 4, None, None)
        self.far = pay(self.trust, 0, 2, 1, 1, self.b, None)
        self.other = pay(self.trust, 1, 1, 1, 5, self.a, None)
        self.wrong = pay(self.trust, 0, 1, 1, 6, None, None)
        self.one = vote(self.trust, 1, self.a)
        self.two = vote(self.trust, 1, self.b)

    def test_twice(self):
        paper = ("twice", self.one, self.two)
        self.assertEqual(paper, papers.paper_of(self.trust, SMALL, self.one, self.two))
        self.assertEqual(paper, papers.paper_of(self.trust, SMALL, self.two, self.one))
        self.assertIs(True, papers.is_paper(self.trust, SMALL, paper))
        self.assertEqual(1, papers.convicted(self.trust, SMALL, paper))
        third = vote(self.trust, 1, self.wrong)
        self.assertEqual(("twice", self.two, third), papers.paper_of(self.trust, SMALL, third, self.two))

    def test_no_paper_of_two(self):
        for member, payment in ((1, self.a), (1, self.far), (1, self.other), (2, self.b), (2, self.a), (0, self.b)):
            name = vote(self.trust, member, payment)
            self.assertIsNone(papers.paper_of(self.trust, SMALL, self.one, name))
            self.assertIsNone(papers.paper_of(self.trust, SMALL, name, self.one))
            lesser, greater = sorted((self.one, name))
            self.assertIs(False, papers.is_paper(self.trust, SMALL, ("twice", lesser, greater)))
            self.assertIs(False, papers.is_paper(self.trust, SMALL, ("twice", greater, lesser)))

    def test_one_purse_or_one_number_alone_do_not_clash(self):
        bank = ((5, 5), 4, 1)
        x = pay(self.trust, 0, 2, 1, 1, self.a, None)
        y = pay(self.trust, 1, 1, 0, 1, None, None)
        for payment in (x, y):
            self.assertIsNone(papers.paper_of(self.trust, bank, self.one, vote(self.trust, 1, payment)))

    def test_wrong(self):
        bent = pay(self.trust, 0, 2, 1, 1, None, None)
        above = pay(self.trust, 1, 1, 1, 1, self.wrong, None)
        for payment in (self.wrong, bent, above):
            name = vote(self.trust, 2, payment)
            self.assertEqual(("wrong", name), papers.wrong_paper(self.trust, SMALL, name))
            self.assertIs(True, papers.is_paper(self.trust, SMALL, ("wrong", name)))
            self.assertEqual(2, papers.convicted(self.trust, SMALL, ("wrong", name)))
        for payment in (self.a, self.b, self.far, self.other):
            name = vote(self.trust, 2, payment)
            self.assertIsNone(papers.wrong_paper(self.trust, SMALL, name))
            self.assertIs(False, papers.is_paper(self.trust, SMALL, ("wrong", name)))

    def no_papers(self):
        """Values that are nearly papers, the names 0 and 1 being the payments a and b."""
        unsealed = self.trust.name(("vote", 3, self.wrong))
        bad = vote(self.trust, 3, self.b)
        return odd_values() + [
            (), ("twice",), ("twice", self.one), ("twice", self.two, self.one), ["twice", self.one, self.two],
            ("twice", self.one, self.two, 0), ("Twice", self.one, self.two), ("wrong", self.one, self.two),
            (None, self.one, self.two), ("twice", self.one, bad), ("twice", self.one, self.one), ("twice", self.a, self.b),
            ("twice", list(self.one), self.two), ("twice", (self.one, self.two)), ("wrong", self.one), ("wrong",),
            ("wrong", self.wrong), ("wrong", unsealed), ("wrong", None), ("wrong", [unsealed]), ("twice", self.one, None),
            ("twice", self.one, self.trust.name("junk")), ("twice", self.one, ("name", 10 ** 6)), (self.one, self.two),
            ("twice", vote(self.trust, 2, self.wrong)), ("wrong", vote(self.trust, 2, self.wrong), None), (True, unsealed),
        ]

    def test_no_papers(self):
        for value in self.no_papers():
            with self.subTest(value=value):
                self.assertIs(False, papers.is_paper(self.trust, SMALL, value))

    def test_true_is_no_number(self):
        trust = Trust()
        wrong = pay(trust, 0, 1, 1, 6, None, None)
        name = vote(trust, 0, wrong)
        self.assertEqual(("name", 1), name)
        self.assertTrue(papers.is_paper(trust, SMALL, ("wrong", name)))
        self.assertFalse(papers.is_paper(trust, SMALL, ("wrong", ("name", True))))
        with self.assertRaises(BadVote):
            papers.wrong_paper(trust, SMALL, ("name", True))

    def test_errors_in_sequence(self):
        front = [("trust", self.trust, BadTrust, BAD_TRUSTS), ("bank", SMALL, BadBank, BAD_BANKS)]
        unsealed = self.trust.name(("vote", 3, self.a))
        bad = odd_values() + [(), self.a, unsealed, [self.one], (self.one,), list(self.one), self.trust.name("junk")]
        check_errors(self, papers.paper_of, front + [("one", self.one, BadVote, bad), ("other", self.two, BadVote, bad)])
        check_errors(self, papers.wrong_paper, front + [("vote", self.one, BadVote, bad)])
        paper = ("twice", self.one, self.two)
        check_errors(self, papers.is_paper, front + [("value", paper, None, [])])
        check_errors(self, papers.convicted, front + [("paper", paper, BadPaper, self.no_papers())])

    def test_papers_stay(self):
        wrong = ("wrong", vote(self.trust, 2, self.wrong))
        twice = ("twice", self.one, self.two)
        for at in range(20):
            payment = pay(self.trust, 0, 1, 1, 7 + at, None, None)
            self.trust.seal(("owner", 0), payment)
            vote(self.trust, at % 4, payment)
            self.assertEqual((1, 2), (papers.convicted(self.trust, SMALL, twice), papers.convicted(self.trust, SMALL, wrong)))

    def test_one_bank_says_nothing_about_another(self):
        name = vote(self.trust, 2, self.wrong)
        for _ in range(2):
            self.assertEqual(("wrong", name), papers.wrong_paper(self.trust, SMALL, name))
            self.assertIsNone(papers.wrong_paper(self.trust, ((6, 0), 4, 1), name))
            self.assertFalse(papers.is_paper(self.trust, THREE, ("wrong", name)))

    def test_example_by_hand(self):
        one = certificate(self.trust, (0, 1, 2), self.a)
        other = certificate(self.trust, (1, 2, 3), self.b)
        self.assertTrue(is_certificate(self.trust, SMALL, one) and is_certificate(self.trust, SMALL, other))
        self.assertEqual([1, 2], self.convicted_by(one[1] + other[1]))
        third = certificate(self.trust, (0, 2, 3), self.wrong)
        for name in third[1]:
            self.assertTrue(papers.is_paper(self.trust, SMALL, ("wrong", name)))
        for name in one[1] + other[1]:
            self.assertIsNone(papers.wrong_paper(self.trust, SMALL, name))

    def convicted_by(self, votes):
        """The ascending list of the members that two of the votes convict."""
        told = set()
        for first, second in combinations(votes, 2):
            paper = papers.paper_of(self.trust, SMALL, first, second)
            if paper is not None:
                told.add(papers.convicted(self.trust, SMALL, paper))
        return sorted(told)

    def test_two_certificates_that_clash_convict_members_less_twice_lies(self):
        for members, lies in ((1, 0), (4, 1), (7, 2), (8, 2), (10, 3), (13, 4)):
            bank = ((5, 0), members, lies)
            need = members - lies
            one = certificate(self.trust, range(need), self.a)
            other = certificate(self.trust, range(members - need, members), self.b)
            told = set()
            for first in one[1]:
                for second in other[1]:
                    paper = papers.paper_of(self.trust, bank, first, second)
                    if paper is not None:
                        told.add(papers.convicted(self.trust, bank, paper))
            self.assertEqual(set(range(members - need, need)), told)
            self.assertEqual(members - 2 * lies, len(told))


if __name__ == "__main__":
    unittest.main()
