"""[60] to [62]: books, in any sequence, and put together."""

import random
import unittest
from itertools import permutations

from pursesapart.books import Book, book_of, certificates, common_book, is_part_of, joined_books, lacking
from pursesapart.errors import BadBank, BadBook, BadCertificate, BadCertificates, BadRow, BadTrust, Clash, NotHere, NotRight
from pursesapart.trust import Trust
from tests.helpers import BAD_BANKS, BAD_ROWS, BAD_TRUSTS, SMALL, THREE, bent_certificates, certificate, certified
from tests.helpers import check_errors, check_raises, odd_values, pay, sealed_chain
from tests.plain import Plain
from tests.webs import grow


def plain_booked(plain, listed):
    """The payments all of whose past has certificates in the list."""
    return tuple(sorted(name for name in listed if plain.past(name) <= set(listed)))


class Books(unittest.TestCase):
    def setUp(self):
        self.trust = Trust()
        self.x = pay(self.trust, 0, 1, 1, 3, None, None)
        self.y = pay(self.trust, 1, 1, 0, 2, self.x, None)
        self.c = certificate(self.trust, (0, 1, 2), self.x)
        self.d = certificate(self.trust, (1, 2, 3), self.y)
        self.book = Book(self.trust, SMALL)

    def test_an_empty_book(self):
        told = (self.book.booked(), self.book.waiting(), self.book.row(), self.book.last(), self.book.purses())
        self.assertEqual(((), (), (0, 0), (None, None), (5, 0)), told)
        self.assertEqual([], certificates(self.book))

    def test_example_by_hand(self):
        self.assertEqual((), self.book.take(self.d))
        self.assertEqual(((), (self.y,), (5, 0)), (self.book.booked(), self.book.waiting(), self.book.purses()))
        self.assertEqual((self.x, self.y), self.book.take(self.c))
        self.assertEqual(((1, 1), (4, 1)), (self.book.row(), self.book.purses()))
        self.assertEqual(((self.x, self.y), ()), (self.book.booked(), self.book.waiting()))
        self.assertEqual((self.x, self.y), self.book.last())

    def test_in_sequence(self):
        self.assertEqual((self.x,), self.book.take(self.c))
        self.assertEqual(((1, 0), (2, 3), (self.x, None)), (self.book.row(), self.book.purses(), self.book.last()))
        self.assertEqual((self.y,), self.book.take(self.d))

    def test_whatever_is_taken_first_payments_are_told_ascending(self):
        bank = ((5, 5, 5), 4, 1)
        x, *others = [pay(self.trust, 0, 1, 0, 1, None, None, None)] + [
            pay(self.trust, purse, 1, 0, 1, *causes) for purse, causes in ((1, (None,) * 3), (2, (None,) * 3))]
        y, z = [pay(self.trust, purse, 2, 0, 1, *[x] + [other if purse == at else None for at in (1, 2)])
                for purse, other in ((1, others[0]), (2, others[1]))]
        names = [x, *others, y, z]
        self.assertEqual(sorted(names), names)
        book = Book(self.trust, bank)
        for name in (others[1], others[0], z, y):
            book.take(certified(self.trust, bank, name))
        self.assertEqual(((others[0], others[1]), (y, z)), (book.booked(), book.waiting()))
        self.assertEqual((x, y, z), book.take(certified(self.trust, bank, x)))
        self.assertEqual(tuple(names), book.booked())
        book = book_of(self.trust, bank, [certified(self.trust, bank, name) for name in (others[1], others[0], y, z)])
        self.assertEqual((x, y, z), book.take(certified(self.trust, bank, x)))

    def test_a_certificate_that_is_here_stays(self):
        for item, payment in ((self.d, self.y), (self.c, self.x)):
            self.book.take(item)
            other = certificate(self.trust, (0, 2, 3), payment)
            before = self.book.copy()
            self.assertEqual((), self.book.take(other))
            self.assertEqual((), self.book.take(item))
            self.assertEqual(item, self.book.certificate(payment))
            self.assertEqual(before, self.book)

    def test_certificates_of_payments_that_are_here(self):
        self.book.take(self.d)
        self.assertEqual(self.d, self.book.certificate(self.y))
        for payment in [self.x, ("name", self.trust.size()), self.c[1][0], self.d] + odd_values():
            with self.subTest(payment=payment):
                check_raises(self, NotHere, self.book.certificate, [payment])
        self.book.take(self.c)
        self.assertEqual((self.c, self.d), (self.book.certificate(self.x), self.book.certificate(payment=self.y)))

    def test_names_like_true_are_not_here(self):
        trust = Trust()
        names = sealed_chain(trust, SMALL, 2)
        book = book_of(trust, SMALL, [certified(trust, SMALL, name) for name in names])
        self.assertEqual((("name", 0), ("name", 1)), book.booked())
        for bad in (("name", True), ("name", False), ["name", 0], {"name": 0}):
            check_raises(self, NotHere, book.certificate, [bad])

    def test_bad_certificates(self):
        for item in bent_certificates(self.trust, self.c) + odd_values():
            with self.subTest(item=item):
                check_raises(self, BadCertificate, self.book.take, [item])
        self.assertEqual(Book(self.trust, SMALL), self.book)

    def test_not_right(self):
        poor = certified(self.trust, SMALL, pay(self.trust, 0, 1, 1, 6, None, None))
        late = certified(self.trust, SMALL, pay(self.trust, 0, 2, 1, 1, None, None))
        self.book.take(self.c)
        before = self.book.copy()
        for item in (poor, late):
            check_raises(self, NotRight, self.book.take, [item])
        self.assertEqual(before, self.book)

    def test_clash(self):
        rival = pay(self.trust, 0, 1, 1, 4, None, None)
        after = pay(self.trust, 1, 1, 0, 1, None, None)
        item = certified(self.trust, SMALL, rival)
        self.assertFalse(Plain(self.trust, SMALL).fault(rival))
        self.book.take(self.c)
        before = self.book.copy()
        with self.assertRaises(Clash) as caught:
            self.book.take(item)
        self.assertEqual((rival, self.x), (caught.exception.one, caught.exception.other))
        self.assertEqual(before, self.book)
        check_raises(self, NotRight, self.book.take, [certified(self.trust, SMALL, after)])

    def test_clash_with_one_that_is_waiting(self):
        rival = pay(self.trust, 1, 1, 0, 3, self.x, None)
        self.book.take(self.d)
        with self.assertRaises(Clash) as caught:
            self.book.take(certified(self.trust, SMALL, rival))
        self.assertEqual((rival, self.y), (caught.exception.one, caught.exception.other))
        self.assertEqual(((), (self.y,)), (self.book.booked(), self.book.waiting()))

    def test_the_seal_of_the_owner_plays_no_part(self):
        self.assertFalse(self.trust.sealed(("owner", 0), self.x))
        self.assertEqual((self.x,), self.book.take(self.c))

    def test_a_copy_is_a_book_of_its_own(self):
        self.book.take(self.d)
        copy = self.book.copy()
        self.assertEqual(self.book, copy)
        copy.take(self.c)
        self.assertNotEqual(self.book, copy)
        self.assertEqual(((), (self.y,)), (self.book.booked(), self.book.waiting()))
        self.assertEqual((self.x, self.y), self.book.take(certificate(self.trust, (0, 2, 3), self.x)))
        self.assertEqual(self.book, copy)
        self.assertEqual(self.c, copy.certificate(self.x))

    def test_equality(self):
        one, other = Book(self.trust, SMALL), Book(self.trust, SMALL)
        self.assertTrue(one == other)
        one.take(self.c)
        self.assertFalse(one == other)
        self.assertTrue(one != other)
        other.take(certificate(self.trust, (1, 2, 3), self.x))
        self.assertTrue(one == other)
        one.take(self.d)
        self.assertFalse(one == other)
        waiting = Book(self.trust, SMALL)
        waiting.take(self.d)
        self.assertFalse(waiting == Book(self.trust, SMALL))
        self.assertFalse(waiting == one)
        self.assertFalse(Book(self.trust, SMALL) == Book(Trust(), SMALL))
        self.assertFalse(Book(self.trust, SMALL) == Book(self.trust, ((5, 0), 5, 1)))
        self.assertTrue(Book(self.trust, SMALL) == Book(self.trust, ((5, 0), 4, 1)))
        for value in odd_values() + [self.trust, SMALL, (), []]:
            self.assertFalse(one == value)
            self.assertTrue(one != value)

    def test_all_sequences(self):
        for seed in range(12):
            plain, names = grow(seed, THREE, 5, free=False)
            dice = random.Random(seed)
            items = [certified(plain.trust, THREE, name) for name in names if dice.random() < 0.8]
            listed = [item[0] for item in items]
            booked = plain_booked(plain, listed)
            for row in permutations(items):
                book = Book(plain.trust, THREE)
                for at, item in enumerate(row):
                    before = book.booked()
                    told = book.take(item)
                    now = plain_booked(plain, [one[0] for one in row[:at + 1]])
                    self.assertEqual(now, book.booked())
                    self.assertEqual(tuple(sorted(set(now) - set(before))), told)
                    self.assertEqual(sum(THREE[0]), sum(book.purses()))
                    self.assertGreaterEqual(min(book.purses()), 0)
                self.assertEqual(booked, book.booked())
                self.assertEqual(tuple(sorted(set(listed) - set(booked))), book.waiting())
                self.assertEqual(book_of(plain.trust, THREE, list(row)), book)

    def test_what_a_book_tells(self):
        for seed in range(30):
            plain, names = grow(seed, THREE, 10)
            dice = random.Random(seed)
            some = [name for name in dice.sample(names, 7)]
            book = Book(plain.trust, THREE)
            for name in some:
                try:
                    book.take(certified(plain.trust, THREE, name))
                except Clash as clash:
                    self.assertEqual(name, clash.one)
                    self.assertEqual(plain.place(name), plain.place(clash.other))
                    self.assertIn(clash.other, book.booked() + book.waiting())
            booked = book.booked()
            self.assertTrue(plain.is_lot(booked))
            self.assertEqual(plain.purses_behind(booked), book.purses())
            self.assertEqual(tuple(plain.last(booked, purse) for purse in range(3)), book.last())
            row = tuple(len([name for name in booked if plain.place(name)[0] == purse]) for purse in range(3))
            self.assertEqual(row, book.row())
            self.assertEqual([book.certificate(name) for name in booked], certificates(book))
            again = Book(plain.trust, THREE)
            for item in certificates(book):
                self.assertEqual((item[0],), again.take(item))

    def test_book_of(self):
        again = certificate(self.trust, (0, 2, 3), self.x)
        for items in ([], (), [self.c, self.d], (self.d, self.c), [self.d], [self.c, again, self.d], [again, self.c, self.c]):
            book = book_of(self.trust, SMALL, items)
            other = Book(self.trust, SMALL)
            for item in items:
                other.take(item)
            self.assertEqual(other, book)
            for payment in book.booked():
                self.assertEqual(other.certificate(payment), book.certificate(payment))
        items = [self.d, self.c]
        book_of(self.trust, SMALL, items).take(self.c)
        self.assertEqual([self.d, self.c], items)

    def test_errors(self):
        ahead = [("trust", self.trust, BadTrust, BAD_TRUSTS), ("bank", SMALL, BadBank, BAD_BANKS)]
        check_errors(self, Book, ahead)
        poor = certified(self.trust, SMALL, pay(self.trust, 0, 1, 1, 6, None, None))
        rival = certified(self.trust, SMALL, pay(self.trust, 0, 1, 1, 4, None, None))
        bads = [None, True, 0, "ab", {}, {0: self.c}, self.c, [None], [poor], [self.c, poor], [self.c, rival],
                [rival, self.d, self.c], [self.c, list(self.d)], Trust(), self.book]
        bads += [[item] for item in bent_certificates(self.trust, self.c)]
        check_errors(self, book_of, ahead + [("certificates", [self.c, self.d], BadCertificates, bads)])
        no_books = [None, True, 0, (), [], {}, "book", self.c, self.trust, SMALL, [self.c]]
        check_errors(self, certificates, [("book", self.book, BadBook, no_books)])
        check_errors(self, lacking, [("book", self.book, BadBook, no_books), ("row", (0, 0), BadRow, BAD_ROWS)])
        strange = no_books + [Book(Trust(), SMALL), Book(self.trust, ((5, 0), 5, 1)), Book(self.trust, ((4, 1), 4, 1))]
        for function in (joined_books, is_part_of, common_book):
            check_errors(self, function, [("one", self.book, BadBook, no_books),
                                          ("other", Book(self.trust, SMALL), BadBook, strange)])


class Together(unittest.TestCase):
    def setUp(self):
        self.trust = Trust()
        self.x = pay(self.trust, 0, 1, 1, 3, None, None)
        self.y = pay(self.trust, 1, 1, 0, 2, self.x, None)
        self.rival = pay(self.trust, 0, 1, 1, 4, None, None)
        self.c = certificate(self.trust, (0, 1, 2), self.x)
        self.other_c = certificate(self.trust, (1, 2, 3), self.x)
        self.d = certificate(self.trust, (1, 2, 3), self.y)
        self.e = certified(self.trust, SMALL, self.rival)

    def book(self, *items):
        return book_of(self.trust, SMALL, items)

    def test_joined(self):
        one, other = self.book(self.c), self.book(self.d)
        book = joined_books(one, other)
        self.assertEqual(self.book(self.c, self.d), book)
        self.assertEqual((self.book(self.c), self.book(self.d)), (one, other))
        self.assertEqual(self.book(self.d), joined_books(self.book(), other))
        self.assertEqual((), joined_books(other, other).booked())

    def test_the_certificates_of_one_stay(self):
        one, other = self.book(self.c), self.book(self.other_c, self.d)
        self.assertEqual(self.c, joined_books(one, other).certificate(self.x))
        self.assertEqual(self.other_c, joined_books(other, one).certificate(self.x))
        self.assertEqual(self.c, common_book(one, other).certificate(self.x))
        self.assertEqual(self.other_c, common_book(other, one).certificate(self.x))

    def test_joined_books_are_books_of_their_own(self):
        one, other = self.book(self.c), self.book()
        for book in (joined_books(one, other), joined_books(other, one), common_book(one, one)):
            book.take(self.d)
            self.assertEqual(((self.x,), ()), (one.booked(), other.booked()))
            one.take(self.c)

    def test_clash(self):
        z = pay(self.trust, 0, 2, 1, 1, self.x, None)
        w = pay(self.trust, 0, 2, 1, 1, self.rival, None)
        late, other_late = certified(self.trust, SMALL, z), certified(self.trust, SMALL, w)
        for one, other, pair in [
                (self.book(self.c), self.book(self.e), (self.x, self.rival)),
                (self.book(self.e), self.book(self.d, self.c), (self.rival, self.x)),
                (self.book(self.c, late), self.book(other_late, self.e), (self.x, self.rival)),
                (self.book(late), self.book(other_late), (z, w)), (self.book(other_late), self.book(late, self.c), (w, z))]:
            with self.assertRaises(Clash) as caught:
                joined_books(one, other)
            self.assertEqual(pair, (caught.exception.one, caught.exception.other))
        self.assertFalse(is_part_of(self.book(self.c), self.book(self.e)))
        self.assertEqual(self.book(), common_book(self.book(self.c), self.book(self.e)))

    def test_parts_and_common(self):
        both, first, waiting = self.book(self.c, self.d), self.book(self.c), self.book(self.d)
        self.assertTrue(is_part_of(first, both) and is_part_of(both, both) and is_part_of(self.book(), first))
        self.assertFalse(is_part_of(both, first))
        # What is waiting plays no part in it.
        self.assertTrue(is_part_of(waiting, first) and is_part_of(waiting, self.book()))
        self.assertEqual(first, common_book(both, first))
        self.assertEqual(self.book(), common_book(both, waiting))
        self.assertEqual(self.book(), common_book(waiting, waiting))

    def test_lacking(self):
        book = self.book(self.c, self.d)
        for row, told in [((0, 0), [self.c, self.d]), ((1, 0), [self.d]), ((0, 1), [self.c]), ((1, 1), []), ((5, 0), [self.d])]:
            self.assertEqual(told, lacking(book, row))
        self.assertEqual([], lacking(self.book(self.d), (0, 0)))
        lacking(book, (0, 0)).clear()
        self.assertEqual([self.c, self.d], lacking(book, (0, 0)))

    def test_webs(self):
        for seed in range(40):
            plain, names = grow(seed, THREE, 8, free=False)
            dice = random.Random(seed)
            books = []
            for _ in range(3):
                some = [name for name in names if dice.random() < 0.7]
                books.append(book_of(plain.trust, THREE, [certified(plain.trust, THREE, name) for name in some]))
            self.check_joins(plain, books)
            self.check_common(books)
            self.check_lacking(books[0], books[1])

    def check_joins(self, plain, books):
        """However they are put in pairs, one book comes of it, of which each is a part."""
        one, two, three = books
        whole = joined_books(joined_books(one, two), three)
        self.assertEqual(whole, joined_books(three, joined_books(two, one)))
        self.assertEqual(whole, joined_books(joined_books(one, three), two))
        listed = set().union(*(book.booked() + book.waiting() for book in books))
        self.assertEqual(plain_booked(plain, listed), whole.booked())
        for book in books:
            self.assertTrue(is_part_of(book, whole))

    def check_common(self, books):
        """It is part of both, and each book that is part of both is part of it."""
        one, two, three = books
        both = common_book(one, two)
        self.assertEqual(set(one.booked()) & set(two.booked()), set(both.booked()))
        self.assertEqual((), both.waiting())
        self.assertTrue(is_part_of(both, one) and is_part_of(both, two))
        if is_part_of(three, one) and is_part_of(three, two):
            self.assertTrue(is_part_of(three, both))

    def check_lacking(self, one, other):
        """Taken in this sequence each is booked when it has come, and one is part of other."""
        for item in lacking(one, other.row()):
            other.take(item)
            self.assertIn(item[0], other.booked())
        self.assertTrue(is_part_of(one, other))

    def test_long_books(self):
        names = sealed_chain(self.trust, SMALL, 400)
        items = [certified(self.trust, SMALL, name) for name in names]
        book = Book(self.trust, SMALL)
        for item in items[:0:-1]:
            self.assertEqual((), book.take(item))
        self.assertEqual(tuple(names), book.take(items[0]))
        self.assertEqual((200, 200), book.row())
        self.assertEqual(items, certificates(book.copy()))


if __name__ == "__main__":
    unittest.main()
