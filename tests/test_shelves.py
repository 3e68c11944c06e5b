"""[42]: shelves, what is taken in, rows, and what is above a row."""

import random
import unittest
from itertools import permutations

from pursesapart.errors import BadBank, BadCertificates, BadRow, BadShelf, BadTrust
from pursesapart.shelves import is_shelf, row_of_shelf, shelf_above, taken_in
from pursesapart.trust import Trust
from pursesapart.votes import is_certificate
from tests.helpers import BAD_BANKS, BAD_ROWS, BAD_TRUSTS, SMALL, THREE, bent_certificates, certificate, certified
from tests.helpers import check_errors, odd_values, paid, pay, sealed_chain, vote
from tests.plain import Plain
from tests.webs import grow


def plain_is_shelf(plain, value):
    """The words of [42], one by one."""
    if not isinstance(value, tuple) or not all(is_certificate(plain.trust, plain.bank, item) for item in value):
        return False
    names = [item[0] for item in value]
    if len(set(names)) != len(names) or plain.clashes(set(names)):
        return False
    for at, name in enumerate(names):
        if plain.fault(name) is not None or not plain.trust.sealed(("owner", plain.place(name)[0]), name):
            return False
        if not all(cause in names[:at] for cause in plain.parts(name)[4] if cause is not None):
            return False
    return True


def plain_taken_in(plain, shelf, items):
    """Each item at the end if a shelf comes of it."""
    for item in items:
        if plain_is_shelf(plain, shelf + (item,)):
            shelf = shelf + (item,)
    return shelf


def bad_shelves(trust, good):
    """Values that are no shelves, of the same bank as the good one, which has two payments or more at least."""
    (one, some), other = good[0], good[1]
    return [
        None, True, 0, "shelf", [], list(good), {}, good[::-1], good[1:], good + good[:1], (good,), one, good[0],
        ((one, list(some)),), (list(good[0]),), (good[0], None), (None,), good + ((),), (good[0], other[0]), Trust(),
    ] + [(item,) for item in bent_certificates(trust, good[0])]


class Shelves(unittest.TestCase):
    def setUp(self):
        self.trust = Trust()
        self.plain = Plain(self.trust, SMALL)
        self.a = paid(self.trust, 0, 1, 1, 5, None, None)
        self.b = paid(self.trust, 1, 1, 0, 2, self.a, None)
        self.c = certificate(self.trust, (0, 1, 2), self.a)
        self.d = certificate(self.trust, (1, 2, 3), self.b)

    def is_shelf(self, *items):
        """Whether these make a shelf."""
        return is_shelf(self.trust, SMALL, items)

    def test_what_is_a_shelf(self):
        self.assertTrue(self.is_shelf())
        self.assertTrue(self.is_shelf(self.c))
        self.assertTrue(self.is_shelf(self.c, self.d))
        self.assertIs(True, is_shelf(self.trust, SMALL, (self.c, self.d)))

    def test_any_value_may_be_asked(self):
        for value in odd_values() + [self.c, self.d, [self.c], self.a]:
            with self.subTest(value=value):
                self.assertIs(value == (), is_shelf(self.trust, SMALL, value))
                self.assertIs(False, is_shelf(self.trust, SMALL, (value,)) and value not in (self.c,))
                self.assertIs(False, is_shelf(self.trust, SMALL, (self.c, value)) and value not in (self.d,))

    def test_each_stands_behind_its_causes(self):
        self.assertFalse(self.is_shelf(self.d))
        self.assertFalse(self.is_shelf(self.d, self.c))

    def test_payments_are_unlike(self):
        again = certificate(self.trust, (1, 2, 3), self.a)
        self.assertTrue(self.is_shelf(again))
        self.assertFalse(self.is_shelf(self.c, again))
        self.assertFalse(self.is_shelf(self.c, self.c))

    def test_payments_are_right_and_sealed_by_their_owners(self):
        poor = paid(self.trust, 0, 1, 1, 6, None, None)
        self.assertFalse(self.is_shelf(certified(self.trust, SMALL, poor)))
        open_one = pay(self.trust, 0, 1, 1, 3, None, None)
        item = certified(self.trust, SMALL, open_one)
        self.assertFalse(self.is_shelf(item))
        self.trust.seal(("owner", 1), open_one)
        self.trust.seal(("member", 0), open_one)
        self.assertFalse(self.is_shelf(item))
        self.trust.seal(("owner", 0), open_one)
        self.assertTrue(self.is_shelf(item))

    def test_no_two_clash(self):
        rival = certified(self.trust, SMALL, paid(self.trust, 0, 1, 1, 4, None, None))
        self.assertTrue(self.is_shelf(rival))
        self.assertFalse(self.is_shelf(self.c, rival))
        self.assertFalse(self.is_shelf(rival, self.c))

    def test_bent_certificates(self):
        for item in bent_certificates(self.trust, self.c):
            with self.subTest(item=item):
                self.assertFalse(self.is_shelf(item))
                self.assertEqual((self.c, self.d), taken_in(self.trust, SMALL, (), [item, self.c, item, self.d, item]))

    def test_taken_in(self):
        for items in ([], (), [self.c, self.d], (self.c, self.d), [self.d, self.c, self.c, self.d]):
            told = taken_in(self.trust, SMALL, (), items)
            self.assertEqual((self.c, self.d)[:len(items)], told)
        self.assertEqual((self.c,), taken_in(self.trust, SMALL, (), [self.d, self.c]))
        self.assertEqual((self.c,), taken_in(self.trust, SMALL, (self.c,), [self.c]))
        self.assertEqual((self.c, self.d), taken_in(self.trust, SMALL, (self.c,), [self.d]))
        self.assertEqual((), taken_in(self.trust, SMALL, (), odd_values() + [[self.c], list(self.c), (self.c,)]))

    def test_what_is_there_stays(self):
        again = certificate(self.trust, (1, 2, 3), self.a)
        rival = certified(self.trust, SMALL, paid(self.trust, 0, 1, 1, 4, None, None))
        self.assertEqual((self.c,), taken_in(self.trust, SMALL, (self.c,), [again, rival]))
        self.assertEqual((again,), taken_in(self.trust, SMALL, (again,), [self.c, rival]))
        self.assertEqual((rival,), taken_in(self.trust, SMALL, (rival,), [self.c, self.d]))

    def test_what_is_passed_is_not_changed(self):
        items = [self.d, self.c, self.d]
        taken_in(self.trust, SMALL, (), items)
        self.assertEqual([self.d, self.c, self.d], items)

    def test_all_sequences_of_some_certificates(self):
        e = paid(self.trust, 0, 2, 1, 1, self.a, self.b)
        rival = paid(self.trust, 1, 1, 1, 4, self.a, None)
        items = [self.c, self.d, certified(self.trust, SMALL, e), certified(self.trust, SMALL, rival)]
        for row in permutations(items + [certificate(self.trust, (0, 2, 3), self.a)]):
            self.assertEqual(plain_taken_in(self.plain, (), row), taken_in(self.trust, SMALL, (), list(row)))

    def test_webs_against_the_words(self):
        for seed in range(25):
            plain, names = grow(seed, THREE, 9, poor=0.1, bent=0.1)
            dice = random.Random(seed)
            items = []
            for name in names:
                if plain.parts(name) is None:
                    continue
                if dice.random() < 0.9:
                    plain.trust.seal(("owner", plain.place(name)[0]), name)
                items.append(certificate(plain.trust, dice.sample(range(4), 3), name))
            for _ in range(4):
                row = dice.choices(items, k=2 * len(items))
                told = taken_in(plain.trust, THREE, (), row)
                self.assertEqual(plain_taken_in(plain, (), row), told)
                self.assertTrue(is_shelf(plain.trust, THREE, told))
                some = tuple(dice.sample(items, 3))
                self.assertIs(plain_is_shelf(plain, some), is_shelf(plain.trust, THREE, some))

    def test_rows(self):
        self.assertEqual((0, 0), row_of_shelf(self.trust, SMALL, ()))
        self.assertEqual((1, 0), row_of_shelf(self.trust, SMALL, (self.c,)))
        self.assertEqual((1, 1), row_of_shelf(self.trust, SMALL, (self.c, self.d)))

    def test_above_a_row(self):
        shelf = (self.c, self.d)
        for row, told in [((0, 0), shelf), ((1, 0), (self.d,)), ((0, 1), (self.c,)), ((1, 1), ()), ((9, 0), (self.d,))]:
            self.assertEqual(told, shelf_above(self.trust, SMALL, shelf, row))
        self.assertEqual((), shelf_above(self.trust, SMALL, (), (0, 0)))

    def test_numbers_of_a_purse_stand_in_their_sequence(self):
        for seed in range(10):
            plain, names = grow(seed, THREE, 12)
            for name in names:
                plain.trust.seal(("owner", plain.place(name)[0]), name)
            shelf = taken_in(plain.trust, THREE, (), [certified(plain.trust, THREE, name) for name in names])
            row = row_of_shelf(plain.trust, THREE, shelf)
            self.assertTrue(plain.is_lot([item[0] for item in shelf]))
            for purse in range(3):
                numbers = [plain.place(item[0])[1] for item in shelf if plain.place(item[0])[0] == purse]
                self.assertEqual(list(range(1, row[purse] + 1)), numbers)

    def test_what_one_lacks_of_the_other_is_above_its_row(self):
        met = 0
        for seed in range(40):
            plain, names = grow(seed, THREE, 10)
            dice = random.Random(seed)
            for name in names:
                plain.trust.seal(("owner", plain.place(name)[0]), name)
            one, other = [taken_in(plain.trust, THREE, (), [certified(plain.trust, THREE, name)
                          for name in names if dice.random() < 0.8]) for _ in range(2)]
            both = {item[0] for item in one + other}
            if plain.clashes(both):
                continue
            met += 1
            for mine, theirs in ((one, other), (other, one)):
                lacking = shelf_above(plain.trust, THREE, theirs, row_of_shelf(plain.trust, THREE, mine))
                wider = taken_in(plain.trust, THREE, mine, list(lacking))
                self.assertEqual(mine + lacking, wider)
                self.assertEqual(both, {item[0] for item in wider})
        self.assertGreater(met, 10)

    def test_taken_in_often_enough_no_sequence_matters(self):
        for seed in range(20):
            plain, names = grow(seed, THREE, 7, free=False)
            dice = random.Random(seed)
            for name in names:
                if dice.random() < 0.9:
                    plain.trust.seal(("owner", plain.place(name)[0]), name)
            items = [certified(plain.trust, THREE, name) for name in names if dice.random() < 0.9]
            listed = {item[0] for item in items}
            good = {name for name in listed
                    if all(one in listed and plain.trust.sealed(("owner", plain.place(one)[0]), one)
                           for one in plain.past(name))}
            for _ in range(6):
                row = dice.sample(items, len(items))
                shelf = ()
                for _ in row:
                    shelf = taken_in(plain.trust, THREE, shelf, row)
                self.assertEqual(good, {item[0] for item in shelf})

    def test_long_shelves(self):
        names = sealed_chain(self.trust, SMALL, 400)
        items = [certified(self.trust, SMALL, name) for name in names]
        shelf = taken_in(self.trust, SMALL, (), items + items[::-1])
        self.assertEqual(tuple(items), shelf)
        self.assertEqual((200, 200), row_of_shelf(self.trust, SMALL, shelf))
        self.assertEqual(tuple(items[398:]), shelf_above(self.trust, SMALL, shelf, (199, 199)))

    def test_errors(self):
        good = (self.c, self.d)
        ahead = [("trust", self.trust, BadTrust, BAD_TRUSTS), ("bank", SMALL, BadBank, BAD_BANKS)]
        shelf = ("shelf", good, BadShelf, bad_shelves(self.trust, good))
        check_errors(self, is_shelf, ahead + [("value", good, None, [])])
        check_errors(self, row_of_shelf, ahead + [shelf])
        no_lists = [None, True, 0, "ab", {}, {0: self.c}, Trust()]
        check_errors(self, taken_in, ahead + [shelf, ("certificates", [self.c], BadCertificates, no_lists)])
        check_errors(self, shelf_above, ahead + [shelf, ("row", (0, 0), BadRow, BAD_ROWS)])

    def test_votes_that_were_not_sealed_make_no_shelf(self):
        votes = tuple(self.trust.name(("vote", member, self.b)) for member in (0, 1, 2))
        self.assertFalse(self.is_shelf(self.c, (self.b, tuple(sorted(votes)))))
        for member in (0, 1, 2):
            vote(self.trust, member, self.b)
        self.assertTrue(self.is_shelf(self.c, (self.b, tuple(sorted(votes)))))


if __name__ == "__main__":
    unittest.main()
