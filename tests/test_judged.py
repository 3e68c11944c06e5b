"""[71] and [72]: books joined, and who is harmed."""

import random
import unittest

from pursesapart.court import clash_papers, forged, judged, most_overdrawn, owners_named, sums_told, wrong_papers
from pursesapart.errors import BadBank, BadBooks, BadTrust
from pursesapart.lots import is_right_lot
from pursesapart.trust import Trust
from tests.helpers import BAD_BANKS, BAD_TRUSTS, SMALL, THREE, bent_certificates, certificate, certified, check_errors
from tests.helpers import odd_values, paid, pay, sealed_chain
from tests.webs import grow


def plain_ways(plain, names, purse):
    """All ways of the purse, as lists of payments, the empty one among them."""
    own = [name for name in names if plain.place(name)[0] == purse]
    ways = [[]]
    for way in ways:
        for name in own:
            if plain.place(name)[1] == len(way) + 1 and (not way or plain.parts(name)[4][purse] == way[-1]):
                ways.append(way + [name])
    return ways


def plain_overdrawn(plain, names):
    """The amounts of all payments less those of the dearest way, for each purse."""
    told = []
    for purse in range(plain.purses):
        every = sum(plain.parts(name)[3] for name in names if plain.place(name)[0] == purse)
        told.append(every - max(sum(plain.parts(name)[3] for name in way) for way in plain_ways(plain, names, purse)))
    return tuple(told)


def plain_judged(plain, names, met):
    """The three cases, in their sequence."""
    for name in names:
        if plain.fault(name) is not None:
            return ("wrong", name, wrong_papers(plain.trust, plain.bank, met[name]))
    if plain.clashes(names):
        one, other = plain.clashes(names)[0]
        return ("clash", one, other, clash_papers(plain.trust, plain.bank, met[one], met[other]))
    return ("lot", tuple(names))


def some_books(seed, poor, bent):
    """A plain view, and three books out of a web of payments, some of them sealed."""
    plain, names = grow(seed, THREE, 9, poor=poor, bent=bent)
    dice = random.Random(seed)
    for name in names:
        if plain.parts(name) is not None and dice.random() < 0.8:
            plain.trust.seal(("owner", plain.place(name)[0]), name)
    whole = [name for name in names if all(plain.parts(one) is not None for one in plain.past(name))]
    books = []
    for _ in range(3):
        chosen = set().union(*(plain.past(name) for name in whole if dice.random() < 0.4))
        book = [certificate(plain.trust, dice.sample(range(4), 3), name) for name in chosen]
        dice.shuffle(book)
        books.append(book)
    return plain, books


class Judged(unittest.TestCase):
    def setUp(self):
        self.trust = Trust()
        self.bank = ((4, 0), 4, 1)
        self.a = paid(self.trust, 0, 1, 1, 4, None, None)
        self.b = paid(self.trust, 0, 1, 0, 3, None, None)
        self.c = certificate(self.trust, (0, 1, 2), self.a)
        self.d = certificate(self.trust, (1, 2, 3), self.b)

    def all_told(self, books, bank=None):
        """The results of all five."""
        rest = (self.trust, self.bank if bank is None else bank, books)
        return judged(*rest), sums_told(*rest), most_overdrawn(*rest), forged(*rest), owners_named(*rest)

    def test_example_by_hand(self):
        books = [[self.c], [self.d]]
        papers = clash_papers(self.trust, self.bank, self.c, self.d)
        self.assertEqual([1, 2], [pair[0] for pair in papers])
        told = (("clash", self.a, self.b, papers), (0, 4), (3, 0), [], ((0, (self.a, self.b)),))
        self.assertEqual(told, self.all_told(books))
        rival = paid(self.trust, 0, 1, 1, 3, None, None)
        books = [[self.c], [certificate(self.trust, (1, 2, 3), rival)]]
        self.assertEqual(((-3, 7), (3, 0)), self.all_told(books)[1:3])

    def test_no_books(self):
        for books in ([], (), [[]], [(), []]):
            self.assertEqual((("lot", ()), (4, 0), (0, 0), [], ()), self.all_told(books))

    def test_the_certificate_that_is_met_first(self):
        again = certificate(self.trust, (0, 2, 3), self.a)
        for books, first in [([[self.c], [again, self.d]], self.c), ([[again, self.c], [self.d]], again),
                             ([(self.d,), (again,), (self.c,)], again), (([self.d, self.c, again],), self.c)]:
            papers = clash_papers(self.trust, self.bank, first, self.d)
            self.assertEqual(("clash", self.a, self.b, papers), judged(self.trust, self.bank, books))

    def test_wrong_comes_ahead_of_clash(self):
        poor = certified(self.trust, self.bank, paid(self.trust, 1, 1, 0, 5, self.a, None))
        late = certified(self.trust, self.bank, paid(self.trust, 1, 1, 0, 6, self.a, None))
        told = judged(self.trust, self.bank, [[self.d], [self.c, late, poor]])
        self.assertEqual(("wrong", poor[0], wrong_papers(self.trust, self.bank, poor)), told)

    def test_the_least_clash(self):
        e = certified(self.trust, self.bank, paid(self.trust, 0, 1, 1, 1, None, None))
        f = certified(self.trust, self.bank, paid(self.trust, 0, 2, 1, 1, self.b, None))
        g = certified(self.trust, self.bank, paid(self.trust, 0, 2, 0, 1, self.b, None))
        for books, pair in [([[e], [self.d], [self.c]], (self.a, self.b)), ([[e], [self.d, f], [g, self.d]], (self.b, e[0])),
                            ([[g, self.d, f]], (f[0], g[0]))]:
            self.assertEqual(pair, judged(self.trust, self.bank, books)[1:3])

    def test_payments_of_a_book_need_their_causes_in_that_book(self):
        after = certified(self.trust, self.bank, paid(self.trust, 1, 1, 0, 2, self.a, None))
        for books in ([[after]], [[self.c], [after]], [[self.d, after], [self.c]]):
            for function in (judged, sums_told, most_overdrawn, forged, owners_named):
                with self.assertRaises(BadBooks):
                    function(self.trust, self.bank, books)
        self.assertEqual(("lot", (self.a, after[0])), judged(self.trust, self.bank, [[after, self.c]]))

    def test_ways(self):
        trust = Trust()
        bank = ((10, 0), 4, 1)
        a, b = paid(trust, 0, 1, 1, 2, None, None), paid(trust, 0, 1, 1, 3, None, None)
        a2, b2, c2 = [paid(trust, 0, 2, 1, amount, cause, None) for amount, cause in ((5, a), (1, b), (2, b))]
        c3 = paid(trust, 0, 3, 1, 4, c2, None)
        items = [certified(trust, bank, name) for name in (a, b, a2, b2, c2, c3)]
        self.assertEqual((17 - 9, 0), most_overdrawn(trust, bank, [items]))
        self.assertEqual((13 - 7, 0), most_overdrawn(trust, bank, [items[:5]]))
        self.assertEqual((-7, 17), sums_told(trust, bank, [items]))

    def test_ways_go_by_the_purse_and_the_numbers(self):
        trust = Trust()
        bank = ((10, 10), 4, 1)
        a = paid(trust, 0, 1, 1, 2, None, None)
        other = paid(trust, 1, 1, 0, 9, a, None)
        skipped = paid(trust, 0, 3, 1, 5, a, other)
        crossed = paid(trust, 0, 2, 1, 4, other, None)
        alone = paid(trust, 0, 2, 1, 3, None, None)
        begun = paid(trust, 0, 1, 1, 6, a, None)
        items = [certified(trust, bank, name) for name in (a, other, skipped, crossed, alone, begun)]
        self.assertEqual((20 - 6, 0), most_overdrawn(trust, bank, [items]))

    def test_forged_and_owners_named(self):
        trust = Trust()
        a, b, c = [pay(trust, 0, 1, 1, amount, None, None) for amount in (4, 3, 2)]
        books = [[certified(trust, SMALL, name)] for name in (c, b, a)]
        self.assertEqual(([a, b, c], ()), (forged(trust, SMALL, books), owners_named(trust, SMALL, books)))
        trust.seal(("owner", 1), a)
        trust.seal(("member", 0), b)
        trust.seal(("owner", 0), c)
        self.assertEqual(([a, b], ()), (forged(trust, SMALL, books), owners_named(trust, SMALL, books)))
        trust.seal(("owner", 0), b)
        self.assertEqual(([a], ((0, (b, c)),)), (forged(trust, SMALL, books), owners_named(trust, SMALL, books)))
        trust.seal(("owner", 0), a)
        self.assertEqual(([], ((0, (a, b)),)), (forged(trust, SMALL, books), owners_named(trust, SMALL, books)))
        forged(trust, SMALL, books).append(None)
        self.assertEqual([], forged(trust, SMALL, books))

    def test_owners_of_several_purses(self):
        trust = Trust()
        bank = ((3, 3), 4, 1)
        names = [paid(trust, purse, 1, purse, amount, None, None) for amount in (1, 2) for purse in (1, 0)]
        books = [[certified(trust, bank, name) for name in names]]
        self.assertEqual(((0, (names[1], names[3])), (1, (names[0], names[2]))), owners_named(trust, bank, books))

    def test_webs(self):
        kinds = {"wrong": 0, "clash": 0, "lot": 0}
        for seed in range(150):
            odd = 0.08 * (seed % 2)
            plain, books = some_books(seed, odd, odd)
            met = {}
            for book in books:
                for item in book:
                    met.setdefault(item[0], item)
            names = sorted(met)
            told = judged(plain.trust, THREE, books)
            kinds[told[0]] += 1
            self.assertEqual(plain_judged(plain, names, met), told)
            self.assertEqual(plain.purses_behind(names), sums_told(plain.trust, THREE, books))
            self.assertEqual(plain_overdrawn(plain, names), most_overdrawn(plain.trust, THREE, books))
            loose = [name for name in names if not plain.trust.sealed(("owner", plain.place(name)[0]), name)]
            self.assertEqual(loose, forged(plain.trust, THREE, books))
            owners = {}
            for one, other in plain.clashes([name for name in names if name not in loose]):
                owners.setdefault(plain.place(one)[0], (one, other))
            self.assertEqual(tuple(sorted(owners.items())), owners_named(plain.trust, THREE, books))
            self.check_heart(plain, books, told, loose, owners)
        self.assertGreater(min(kinds.values()), 10, kinds)

    def check_heart(self, plain, books, told, loose, owners):
        """What is never so while nothing is wrong."""
        if told[0] == "wrong":
            self.assertGreaterEqual(len(told[2]), 3)
            return
        sums = sums_told(plain.trust, THREE, books)
        self.assertEqual(sum(THREE[0]), sum(sums))
        for purse, (held, most) in enumerate(zip(sums, most_overdrawn(plain.trust, THREE, books))):
            self.assertGreaterEqual(held, -most)
            if held < 0:
                self.assertTrue(purse in owners or purse in [plain.place(name)[0] for name in loose])
        if told[0] == "lot":
            self.assertTrue(is_right_lot(plain.trust, THREE, told[1]))
            self.assertEqual((0, 0, 0), most_overdrawn(plain.trust, THREE, books))
        else:
            self.assertGreaterEqual(len(told[3]), 2)

    def test_many_payments_of_one_number(self):
        trust = Trust()
        bank = ((400, 0), 4, 1)
        firsts = [paid(trust, 0, 1, 1, amount, None, None) for amount in range(1, 101)]
        seconds = [paid(trust, 0, 2, 1, 100 - at, name, None) for at, name in enumerate(firsts)]
        book = [certified(trust, bank, name) for name in firsts + seconds]
        self.assertEqual((2 * 5050 - 101, 0), most_overdrawn(trust, bank, [book, book[:100]]))

    def test_long_books(self):
        names = sealed_chain(self.trust, SMALL, 400)
        book = [certified(self.trust, SMALL, name) for name in names]
        self.assertEqual((("lot", tuple(names)), (5, 0), (0, 0), [], ()), self.all_told([book[::-1], book, book[:9]], SMALL))

    def test_errors(self):
        good = [[self.c], (self.d,)]
        rest = [("trust", self.trust, BadTrust, BAD_TRUSTS), ("bank", self.bank, BadBank, BAD_BANKS)]
        bads = [None, True, 0, "ab", {}, {0: [self.c]}, [self.c], self.c, [None], [[self.c], None], [[self.c], {}],
                [[self.c], "ab"], [[[self.c]]], [[self.c, None]], Trust(), [{self.c: True}]]
        bads += [[[item]] for item in bent_certificates(self.trust, self.c)]
        bads += [[[self.c], [value]] for value in odd_values()]
        for function in (judged, sums_told, most_overdrawn, forged, owners_named):
            check_errors(self, function, rest + [("books", good, BadBooks, bads)])


if __name__ == "__main__":
    unittest.main()
