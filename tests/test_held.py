"""[24]: papers of the most and the least that purses hold together."""

import random
import unittest
from itertools import combinations

from pursesapart import lots
from pursesapart.errors import BadBank, BadLot, BadPurses, BadTrust
from pursesapart.payments import past_of, payment_of
from pursesapart.trust import Trust
from tests.helpers import BAD_BANKS, BAD_TRUSTS, LONG, SMALL, THREE, chain, check_errors, odd_values, pay
from tests.webs import grow_lot

BANKS = (((3, 2), 4, 1), ((2, 1, 3), 7, 2), ((4, 0, 1, 2), 1, 0), ((2, 2, 2), 4, 1))


def purses_of(bank):
    """All ascending tuples of purses."""
    many = len(bank[0])
    return [some for size in range(many + 1) for some in combinations(range(many), size)]


def held_by(trust, bank, names, purses):
    """What the purses hold together behind these payments."""
    held = sum(bank[0][purse] for purse in purses)
    for name in names:
        purse, _, to, amount, _ = payment_of(trust, bank, name)
        held += amount * ((to in purses) - (purse in purses))
    return held


def is_paper_by_hand(trust, bank, lot, purses, paper):
    """Whether a well-made tuple is a paper by the words of the document."""
    word, amount, part, shares = paper
    inward = {}
    outward = {}
    for name in lot:
        purse, _, to, worth, _ = payment_of(trust, bank, name)
        if to in purses and purse not in purses:
            inward[name] = worth
        if purse in purses and to not in purses:
            outward[name] = worth
    wanted, against = (inward, outward) if word == "most" else (outward, inward)
    left, room = dict(wanted), dict(against)
    for one, other, share in shares:
        if share < 1 or one not in left or other not in room or other not in past_of(trust, bank, one):
            return False
        left[one] -= share
        room[other] -= share
    free = sum(left.values()) * (1 if word == "most" else -1)
    good = min([*left.values(), *room.values()], default=0) >= 0 and list(shares) == sorted(shares)
    good = good and len({share[:2] for share in shares}) == len(shares)
    good = good and lots.is_lot(trust, bank, part) and set(part) <= set(lot)
    return good and amount == held_by(trust, bank, part, purses) == sum(bank[0][purse] for purse in purses) + free


class Papers(unittest.TestCase):
    def setUp(self):
        self.trust = Trust()
        self.x = pay(self.trust, 0, 1, 1, 4, None, None, None)
        self.y = pay(self.trust, 1, 1, 2, 3, self.x, None, None)
        self.lot = (self.x, self.y)

    def both(self, purses, lot=None, bank=THREE):
        """The amounts of the least and of the most."""
        lot = self.lot if lot is None else lot
        least = lots.least_held(self.trust, bank, lot, purses)
        most = lots.most_held(self.trust, bank, lot, purses)
        for word, paper in (("least", least), ("most", most)):
            self.assertEqual(word, paper[0])
            self.assertTrue(lots.is_held(self.trust, bank, lot, purses, paper))
            self.assertTrue(is_paper_by_hand(self.trust, bank, lot, purses, paper))
        return least[1], most[1]

    def test_example_by_hand(self):
        self.assertEqual((1, 5), self.both((0, 2)))
        for paper in (("least", 1, (self.x,), ()), ("most", 5, (), ((self.y, self.x, 3),))):
            self.assertIs(True, lots.is_held(self.trust, THREE, self.lot, (0, 2), paper))
        self.assertEqual(("least", 1, (self.x,), ()), lots.least_held(self.trust, THREE, self.lot, (0, 2)))
        self.assertEqual(("most", 5, (), ((self.y, self.x, 3),)), lots.most_held(self.trust, THREE, self.lot, (0, 2)))

    def test_each_lot_of_purses(self):
        wanted = {(): (0, 0), (0,): (1, 5), (1,): (0, 4), (2,): (0, 3), (0, 1): (2, 5), (0, 2): (1, 5),
                  (1, 2): (0, 4), (0, 1, 2): (5, 5)}
        for purses, told in wanted.items():
            self.assertEqual(told, self.both(purses), purses)

    def test_no_purse_and_all_purses(self):
        for purses, amount in (((), 0), ((0, 1, 2), 5)):
            for word in ("most", "least"):
                for part in ((), (self.x,), self.lot):
                    self.assertTrue(lots.is_held(self.trust, THREE, self.lot, purses, (word, amount, part, ())))
                self.assertFalse(lots.is_held(self.trust, THREE, self.lot, purses, (word, amount, (self.y,), ())))
                self.assertFalse(lots.is_held(self.trust, THREE, self.lot, purses, (word, amount + 1, (), ())))

    def test_the_empty_lot(self):
        self.assertEqual((5, 5), self.both((0,), ()))
        self.assertEqual((0, 0), self.both((), ()))

    def test_payments_to_the_own_purse_change_nothing(self):
        own = pay(self.trust, 0, 2, 0, 1, self.x, None, None)
        self.assertEqual((1, 5), self.both((0,), (self.x, own)))
        self.assertEqual((0, 4), self.both((1, 2), (self.x, own)))

    def test_true_is_no_number(self):
        bank = ((1, 1), 4, 1)
        trust = Trust()
        x = pay(trust, 0, 1, 1, 1, None, None)
        y = pay(trust, 1, 1, 0, 1, x, None)
        self.assertEqual((("name", 0), ("name", 1)), (x, y))
        good = ("most", 1, (), ((y, x, 1),))
        self.assertIs(True, lots.is_held(trust, bank, (x, y), (0,), good))
        for bent in (("most", True, (), ((y, x, 1),)), ("most", 1, (), ((y, x, True),)),
                     ("most", 1, (), ((("name", True), x, 1),)), ("most", 1, (), ((y, ("name", False), 1),))):
            self.assertIs(False, lots.is_held(trust, bank, (x, y), (0,), bent))
        least = ("least", 0, (x,), ())
        self.assertIs(True, lots.is_held(trust, bank, (x, y), (0,), least))
        for bent in (("least", False, (x,), ()), ("least", 0, (("name", False),), ())):
            self.assertIs(False, lots.is_held(trust, bank, (x, y), (0,), bent))

    def test_papers_bent_in_a_place(self):
        x, y = self.lot
        share = (y, x, 3)
        bent = odd_values() + [
            (), ("most", 5, ()), ("most", 5, (), (share,), ()), ["most", 5, (), (share,)], ("Most", 5, (), (share,)),
            ("least", 5, (), (share,)), (None, 5, (), (share,)), ("most", 4, (), (share,)), ("most", 6, (), (share,)),
            ("most", 5, (x,), (share,)), ("most", 5, [], (share,)), ("most", 5, None, (share,)),
            ("most", 5, (y,), (share,)), ("most", 5, (), [share]), ("most", 5, (), (list(share),)),
            ("most", 5, (), ((y, x, 2),)), ("most", 5, (), ((y, x, 4),)), ("most", 5, (), ((x, y, 3),)),
            ("most", 5, (), ((y, x, 3, 0),)), ("most", 5, (), ((y, x),)), ("most", 5, (), ()),
            ("most", 5, (), (share, share)), ("most", 5, (), ((y, x, 1), (y, x, 2))), ("most", 5, (), (None,)),
            ("most", 5, (), ((y, x, 3), (y, x, 0))), ("most", 5, (), ((y, x, 0), (y, x, 3))), ("most", 8, (), ()),
            ("most", 5, (), ((y, y, 3),)), ("most", 5, (), ((x, x, 3),)), ("most", 5, (), ((y, None, 3),)),
            ("most", 5, (), ((list(y), x, 3),)), ("most", 5, (), ((y, x, None),)), ("most", 5, (), ((y, x, "3"),)),
            ("most", 5, (), ((y, ("name", 9), 3),)), ("most", 5, (x, y), (share,)), ("most", None, (), (share,)),
            ("most", "5", (), (share,)), ("most", 5, (), None), ("most", 5, (("name", 9),), (share,)),
        ]
        bent += [(word, 1, (x,), ()) for word in ("Least", "", None, "most", ("least",), ["least"], True, 0, x)]
        for value in bent:
            with self.subTest(value=value):
                self.assertIs(False, lots.is_held(self.trust, THREE, self.lot, (0, 2), value))
        self.assertTrue(lots.is_held(self.trust, THREE, self.lot, (0, 2), ("least", 1, (x,), ())))
        self.assertTrue(lots.is_held(self.trust, THREE, self.lot, (0, 2), ("most", 5, (), (share,))))

    def test_errors_in_sequence(self):
        poor = pay(self.trust, 2, 1, 2, 4, self.x, None, None)
        bad_lots = odd_values() + [list(self.lot), self.lot[::-1], (self.y,), (self.x, poor), (self.x, self.x)]
        bad = [None, True, 0, "", [], {}, [0], (3,), (-1,), (True,), (False,), (False, 1), (0, True), (1, 0), (0, 0),
               (0, 1, 1), (None,), ("0",), (0, 3), (0, 1, 2, 3), ((0,),), ([0],), (LONG,), Trust(), (0, 2, 1)]
        rows = [("trust", self.trust, BadTrust, BAD_TRUSTS), ("bank", THREE, BadBank, BAD_BANKS),
                ("lot", self.lot, BadLot, bad_lots), ("purses", (0, 2), BadPurses, bad)]
        check_errors(self, lots.most_held, rows)
        check_errors(self, lots.least_held, rows)
        check_errors(self, lots.is_held, rows + [("value", None, None, [])])


class Shares(unittest.TestCase):
    """Two wanted payments and two against, held to their words."""

    def setUp(self):
        self.trust = Trust()
        self.bank = ((6, 6, 6), 4, 1)
        self.a = pay(self.trust, 0, 1, 1, 3, None, None, None)
        self.b = pay(self.trust, 0, 2, 1, 2, self.a, None, None)
        self.c = pay(self.trust, 1, 1, 0, 2, self.b, None, None)
        self.d = pay(self.trust, 2, 1, 0, 4, self.b, None, None)
        self.lot = (self.a, self.b, self.c, self.d)

    def held(self, amount, part, *shares):
        """Whether the paper of the most of purse 0 is one."""
        return lots.is_held(self.trust, self.bank, self.lot, (0,), ("most", amount, part, shares))

    def test_all_shares_together(self):
        a, b, c, d = self.lot
        self.assertEqual(7, lots.most_held(self.trust, self.bank, self.lot, (0,))[1])
        self.assertTrue(self.held(7, self.lot, (c, a, 2), (d, a, 1), (d, b, 2)))
        self.assertTrue(self.held(7, self.lot, (c, b, 2), (d, a, 3)))
        self.assertTrue(self.held(7, self.lot, (c, a, 1), (c, b, 1), (d, a, 2), (d, b, 1)))
        self.assertFalse(self.held(7, self.lot, (d, a, 3), (c, b, 2)))
        self.assertFalse(self.held(7, self.lot, (c, a, 0), (c, b, 2), (d, a, 3)))
        self.assertFalse(self.held(7, self.lot, (c, b, 2), (d, a, 3), (d, b, 0)))
        self.assertFalse(self.held(7, self.lot, (c, a, -1), (c, b, 2), (d, a, 3), (d, b, 1)))
        self.assertFalse(self.held(7, self.lot, (c, a, 1), (c, b, 2), (d, a, 2)))
        self.assertFalse(self.held(7, self.lot, (c, a, 2), (d, a, 2), (d, b, 1)))
        self.assertFalse(self.held(7, self.lot, (c, a, 1), (c, a, 1), (d, a, 1), (d, b, 2)))
        self.assertFalse(self.held(7, self.lot, (c, a, 2), (d, a, 1), (d, b, 1)))
        self.assertFalse(self.held(7, self.lot, (c, a, 2), (d, a, -1), (d, b, 4)))

    def test_too_much_of_one_wanted_payment(self):
        a, b, c, d = self.lot
        self.assertFalse(self.held(7, self.lot, (c, a, 3), (d, b, 2)))
        self.assertFalse(self.held(7, self.lot, (c, a, 1), (c, b, 2), (d, a, 2)))

    def test_too_much_of_one_against(self):
        a, b, c, d = self.lot
        self.assertFalse(self.held(7, self.lot, (c, b, 2), (d, b, 1), (d, a, 2)))

    def test_other_is_in_the_past_of_one(self):
        trust = Trust()
        bank = ((6, 6), 4, 1)
        x = pay(trust, 0, 1, 1, 3, None, None)
        y = pay(trust, 1, 1, 0, 3, None, None)
        self.assertEqual(("most", 9, (y,), ()), lots.most_held(trust, bank, (x, y), (0,)))
        self.assertFalse(lots.is_held(trust, bank, (x, y), (0,), ("most", 6, (), ((y, x, 3),))))
        self.assertFalse(lots.is_held(trust, bank, (x, y), (0,), ("most", 6, (x, y), ((y, x, 3),))))
        self.assertTrue(lots.is_held(trust, bank, (x, y), (0,), ("most", 9, (y,), ())))

    def test_a_part_is_a_lot(self):
        a, b, c, d = self.lot
        for part in ((b, c, d, a), (a, b, d, c), (a, c, d), (a, b, c, d, d), (b, d), [a, b, c, d]):
            self.assertFalse(self.held(held_by(self.trust, self.bank, part, (0,)), part, (c, b, 2), (d, a, 3)))


class Large(unittest.TestCase):
    def check(self, trust, bank, lot, purses):
        """Both papers are papers by the words of the document."""
        for function in (lots.most_held, lots.least_held):
            paper = function(trust, bank, lot, purses)
            self.assertTrue(is_paper_by_hand(trust, bank, lot, purses, paper))
            self.assertTrue(lots.is_held(trust, bank, lot, purses, paper))

    def test_four_hundred_each_above_all_others(self):
        trust = Trust()
        bank = ((50,) * 8, 4, 1)
        lot = tuple(chain(trust, bank, 400))
        for purses in ((0,), (0, 1, 2, 3), (1, 3, 5, 7)):
            self.check(trust, bank, lot, purses)

    def test_many_large_amounts(self):
        for seed in range(8):
            trust, bank, lot = large_lot(seed, 400, (1, 0.3, 0.1, 0.03)[seed % 4])
            self.assertGreater(len(lot), 200)
            for purses in ((0, 1), (0, 2, 4, 6), (1, 2, 3, 4, 5, 6)):
                self.check(trust, bank, lot, purses)

    def test_sums_with_more_than_eighteen_digits(self):
        trust = Trust()
        bank = ((LONG - 1, 0), 4, 1)
        lasts = [None, None]
        lot = []
        for number in range(1, 31):
            for purse in (0, 1):
                lasts[purse] = pay(trust, purse, number, 1 - purse, LONG - 1, *lasts)
                lot.append(lasts[purse])
        lot = tuple(lot)
        self.assertEqual(LONG - 1, lots.most_held(trust, bank, lot, (0,))[1])
        self.assertEqual(0, lots.least_held(trust, bank, lot, (0,))[1])
        self.check(trust, bank, lot, (0,))
        self.check(trust, bank, lot, (1,))


def large_lot(seed, many, seeing):
    """A trust, a bank with large sums, and a right lot of about so many payments."""
    dice = random.Random(seed)
    trust = Trust()
    bank = ((LONG // 10,) * 8, 4, 1)
    known = [{} for _ in range(8)]
    lot = []
    for _ in range(many):
        purse = dice.randrange(8)
        for other in range(8):
            if other != purse and dice.random() < seeing:
                known[purse].update(known[other])
        held = list(bank[0])
        row = [0] * 8
        lasts = [None] * 8
        for name, (own, number, to, amount) in known[purse].items():
            held[own] -= amount
            held[to] += amount
            if number > row[own]:
                row[own], lasts[own] = number, name
        amount = min(held[purse], dice.choice((dice.randrange(LONG // 10), 2 ** dice.randrange(57), 1)))
        if amount > 0:
            to = dice.randrange(8)
            name = pay(trust, purse, row[purse] + 1, to, amount, *lasts)
            known[purse][name] = (purse, row[purse] + 1, to, amount)
            lot.append(name)
    return trust, bank, tuple(sorted(lot))


class AgainstPlainWords(unittest.TestCase):
    def test_all_sequences_of_small_lots(self):
        shared = 0
        for seed in range(160):
            bank = BANKS[seed % 4]
            plain, lot = grow_lot(seed, bank, 7, seeing=(0.4, 0.1)[seed % 2], most=(9, 2)[seed % 2])
            if len(plain.sequences(lot)) > 300:
                lot = lot[:5]
            held = {moment for row in plain.sequences(lot) for moment in plain.moments(row)}
            for purses in purses_of(bank):
                sums = [sum(moment[purse] for purse in purses) for moment in held]
                most = lots.most_held(plain.trust, bank, lot, purses)
                least = lots.least_held(plain.trust, bank, lot, purses)
                self.assertEqual(("most", max(sums)), most[:2])
                self.assertEqual(("least", min(sums)), least[:2])
                shared += bool(most[3] or least[3])
                for paper in (most, least):
                    self.assertTrue(lots.is_held(plain.trust, bank, lot, purses, paper))
                    self.assertTrue(is_paper_by_hand(plain.trust, bank, lot, purses, paper))
        self.assertGreater(shared, 100)

    def test_no_two_papers_of_one_word_tell_unlike_amounts(self):
        for seed in range(20):
            bank = BANKS[seed % 4]
            plain, lot = grow_lot(seed, bank, 4)
            for purses in purses_of(bank):
                for paper in papers_by_enumeration(plain, bank, lot, purses):
                    by_hand = is_paper_by_hand(plain.trust, bank, lot, purses, paper)
                    self.assertEqual(by_hand, lots.is_held(plain.trust, bank, lot, purses, paper))
                    if by_hand:
                        function = lots.most_held if paper[0] == "most" else lots.least_held
                        self.assertEqual(function(plain.trust, bank, lot, purses)[1], paper[1])


def papers_by_enumeration(plain, bank, lot, purses):
    """Papers and what is nearly one: all parts, amounts about theirs, and at most one or two shares of some size."""
    pairs = [(one, other) for one in lot for other in lot if other < one]
    shares = [(*pair, many) for pair in pairs for many in (0, 1, 2, 3)]
    rows = [()] + [(share,) for share in shares] + list(combinations(shares, 2))[:40]
    for part in plain.lots_of(lot):
        for word in ("most", "least"):
            for row in rows:
                yield (word, held_by(plain.trust, bank, part, purses), part, row)


if __name__ == "__main__":
    unittest.main()
