"""[63]: one common book of all votes."""

import random
import unittest
from itertools import combinations

from pursesapart.books import Book, book_of, book_of_votes, is_part_of
from pursesapart.court import named
from pursesapart.errors import BadBank, BadTrust, BadVotes, Clash, NotRight
from pursesapart.trust import Trust
from pursesapart.votes import certificate_of
from tests.helpers import BAD_BANKS, BAD_TRUSTS, SMALL, THREE, certificate, check_errors, check_raises, odd_values, pay
from tests.helpers import sealed_chain, votes
from tests.webs import grow


def plain_told(plain, listed):
    """What is told of these votes: an error, with its pair, or the certificates."""
    trust = plain.trust
    chosen = {}
    for vote in listed:
        _, member, payment = trust.content(vote)
        chosen.setdefault(payment, set()).add(member)
    names = sorted(payment for payment in chosen if len(chosen[payment]) >= 3)
    if any(plain.fault(name) is not None for name in names):
        return "not right"
    if plain.clashes(names):
        return plain.clashes(names)[0]
    return [certificate_of(trust, plain.bank, name, listed) for name in names]


def told(plain, listed):
    """What the program tells."""
    try:
        book = book_of_votes(plain.trust, plain.bank, listed)
    except NotRight:
        return "not right"
    except Clash as clash:
        return (clash.one, clash.other)
    return [book.certificate(name) for name in sorted(book.booked() + book.waiting())]


class VotesBook(unittest.TestCase):
    def setUp(self):
        self.trust = Trust()
        self.x = pay(self.trust, 0, 1, 1, 3, None, None)
        self.y = pay(self.trust, 1, 1, 0, 2, self.x, None)
        self.rival = pay(self.trust, 0, 1, 1, 4, None, None)

    def test_books_of_votes(self):
        for listed in ([], (), votes(self.trust, (0, 1), self.x)):
            self.assertEqual(Book(self.trust, SMALL), book_of_votes(self.trust, SMALL, listed))
        listed = votes(self.trust, (3, 1, 0, 2), self.x) + votes(self.trust, (2, 3, 1), self.y)
        book = book_of_votes(self.trust, SMALL, listed + listed)
        self.assertEqual(book_of(self.trust, SMALL, [certificate(self.trust, (0, 1, 2), self.x)] + [book.certificate(self.y)]), book)
        self.assertEqual(certificate(self.trust, (0, 1, 2), self.x), book.certificate(self.x))
        self.assertEqual(certificate(self.trust, (1, 2, 3), self.y), book.certificate(self.y))
        self.assertEqual((), book_of_votes(self.trust, SMALL, votes(self.trust, (2, 3, 1), self.y)).booked())

    def test_the_same_vote_counts_once(self):
        one, other = votes(self.trust, (0, 1), self.x)
        self.assertEqual(Book(self.trust, SMALL), book_of_votes(self.trust, SMALL, [one, other, one, other]))

    def test_not_right_comes_ahead_of_clash(self):
        poor = pay(self.trust, 0, 3, 1, 6, None, None)
        listed = votes(self.trust, (0, 1, 2), self.x) + votes(self.trust, (1, 2, 3), self.rival)
        with self.assertRaises(Clash) as caught:
            book_of_votes(self.trust, SMALL, listed + votes(self.trust, (0, 1), poor))
        self.assertEqual((self.x, self.rival), (caught.exception.one, caught.exception.other))
        check_raises(self, NotRight, book_of_votes, [self.trust, SMALL, listed + votes(self.trust, (0, 1, 2), poor)])

    def test_clash_tells_the_least(self):
        third = pay(self.trust, 0, 1, 0, 1, None, None)
        later, rival = pay(self.trust, 1, 1, 0, 1, self.x, None), self.y
        listed = []
        for payment in (third, self.rival, self.x, later, rival):
            listed += votes(self.trust, (0, 1, 2), payment)
        for some, pair in [(listed, (self.x, self.rival)), (listed[:6], (self.rival, third)), (listed[6:], (self.y, later)),
                           (listed[:3] + listed[6:], (self.x, third))]:
            with self.assertRaises(Clash) as caught:
                book_of_votes(self.trust, SMALL, some)
            self.assertEqual(pair, (caught.exception.one, caught.exception.other))

    def test_against_the_words(self):
        kinds = {str: 0, tuple: 0, list: 0}
        for seed in range(120):
            odd = 0.05 * (seed % 2)
            plain, names = grow(seed, THREE, 8, poor=odd, bent=odd)
            dice = random.Random(seed)
            voted = [name for name in names if plain.parts(name) is not None]
            listed = []
            for name in voted:
                if plain.fault(name) is None or dice.random() < 0.4:
                    listed += votes(plain.trust, [number for number in range(4) if dice.random() < (0.6, 0.9)[seed // 2 % 2]], name)
            dice.shuffle(listed)
            expected = plain_told(plain, listed)
            kinds[type(expected)] += 1
            self.assertEqual(expected, told(plain, listed))
            self.check_papers(plain, listed, expected)
        self.assertGreater(min(kinds.values()), 3, kinds)

    def check_papers(self, plain, listed, expected):
        """Papers name need members for NotRight, members - 2 * lies for Clash; without them there is neither."""
        papers = len(named(plain.trust, plain.bank, listed))
        if expected == "not right":
            self.assertGreaterEqual(papers, 3)
        elif isinstance(expected, tuple):
            self.assertGreaterEqual(papers, 2)
        elif papers <= 1:
            whole = book_of_votes(plain.trust, plain.bank, listed)
            for many in range(min(3, len(listed))):
                for some in list(combinations(listed, len(listed) - many))[:30]:
                    self.assertTrue(is_part_of(book_of_votes(plain.trust, plain.bank, some), whole))

    def test_many_votes(self):
        names = sealed_chain(self.trust, SMALL, 400)
        listed = []
        for name in names:
            listed += votes(self.trust, (3, 2, 1, 0), name)
        self.assertEqual(tuple(names), book_of_votes(self.trust, SMALL, listed).booked())

    def test_errors(self):
        good = votes(self.trust, (0, 1, 2), self.x)
        unsealed = self.trust.name(("vote", 3, self.x))
        bads = [None, True, 0, "ab", {}, {good[0]: True}, good[0], [self.x], [unsealed], good + [unsealed], [good], Trust()]
        bads += [[value] for value in odd_values()]
        check_errors(self, book_of_votes, [
            ("trust", self.trust, BadTrust, BAD_TRUSTS), ("bank", SMALL, BadBank, BAD_BANKS), ("votes", good, BadVotes, bads),
        ])


if __name__ == "__main__":
    unittest.main()
