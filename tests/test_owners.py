"""[51] to [53]: owners that keep to their rules."""

import unittest
from itertools import permutations, product

from pursesapart.disks import Disk
from pursesapart.errors import BadAmount, BadBank, BadDisk, BadPurse, BadTrust, Busy, Fell, Poor
from pursesapart.lots import content_for
from pursesapart.members import Member
from pursesapart.owners import Owner, may_lack
from pursesapart.payments import is_right, past_of
from pursesapart.shelves import row_of_shelf, shelf_above
from pursesapart.trust import Trust
from tests.helpers import BAD_AMOUNTS, BAD_BANKS, BAD_PURSES, BAD_TRUSTS, SMALL, THREE, bent_certificates, certificate
from tests.helpers import certified, check_errors, check_raises, odd_values, paid, pay, vote
from tests.watch import WatchedDisk, seals_of

MEMBERS = [("member", number) for number in range(4)]
O0, O1 = ("owner", 0), ("owner", 1)


def new_owner(trust, purse=0, cells=None, fuse=None, bank=SMALL):
    return Owner(trust, bank, purse, Disk({} if cells is None else cells, fuse))


def vote_letter(trust, member, payment, receiver=O0):
    return (("member", member), receiver, ("vote", vote(trust, member, payment)))


class Owners(unittest.TestCase):
    def setUp(self):
        self.trust = Trust()
        self.owner = new_owner(self.trust)

    def hear_votes(self, owner, *members):
        """The last result when the votes of these members for the open payment are heard."""
        payment = owner.asked()
        for member in members:
            told = owner.hear(vote_letter(self.trust, member, payment, ("owner", owner.purse)))
        return told

    def test_a_new_owner(self):
        owner = new_owner(self.trust, 1, fuse=0)
        self.assertEqual(((), None, 0), (owner.shelf(), owner.asked(), owner.has()))
        self.assertIs(self.trust, owner.trust)
        self.assertEqual((SMALL, 1), (owner.bank, owner.purse))
        self.assertIsInstance(owner.disk, Disk)
        self.assertEqual(([], []), (owner.again(), owner.news()))
        self.assertEqual({}, owner.disk.cells())
        self.assertEqual(0, self.trust.size())

    def test_example_by_hand(self):
        owner = self.owner
        self.assertEqual(5, owner.has())
        with self.assertRaises(Poor) as caught:
            owner.pay(1, 6)
        self.assertEqual(5, caught.exception.has)
        asks = owner.pay(1, 5)
        x = self.trust.name(("pay", 0, 1, 1, 5, (None, None)))
        self.assertEqual(1, self.trust.size())
        self.assertEqual([(O0, end, ("ask", x, ())) for end in MEMBERS], asks)
        told = self.hear_votes(owner, 2, 0, 3)
        c = certificate(self.trust, (0, 2, 3), x)
        self.assertEqual([(O0, end, ("tell", (c,))) for end in [O1] + MEMBERS], told)
        self.assertEqual((0, None, (c,)), (owner.has(), owner.asked(), owner.shelf()))
        other = new_owner(self.trust, 1)
        self.assertEqual([], other.hear(told[0]))
        self.assertEqual(5, other.has())
        asks = other.pay(0, 2)
        y = other.asked()
        self.assertEqual(("pay", 1, 1, 0, 2, (x, None)), self.trust.content(y))
        self.assertEqual([(O1, end, ("ask", y, (c,))) for end in MEMBERS], asks)
        told = self.hear_votes(other, 0, 1, 2)
        d = certificate(self.trust, (0, 1, 2), y)
        self.assertEqual([(O1, O0, ("tell", (c, d)))] + [(O1, end, ("tell", (d,))) for end in MEMBERS[:3]]
                         + [(O1, MEMBERS[3], ("tell", (c, d)))], sorted(told, key=lambda one: told_key(one)))

    def test_news_has_owners_and_then_members_ascending(self):
        trust = Trust()
        owner = new_owner(trust, 1, bank=THREE)
        a = paid(trust, 0, 1, 1, 3, None, None, None)
        c = certified(trust, THREE, a)
        owner.hear((("member", 0), O1, ("tell", (c,))))
        self.assertEqual([(O1, end, ("tell", (c,))) for end in [O0, ("owner", 2)] + MEMBERS], owner.news())
        self.assertEqual(owner.news(), owner.news())

    def test_ends_that_lack_nothing_get_no_news(self):
        self.assertEqual([], self.owner.news())
        self.owner.pay(1, 1)
        self.assertEqual([], self.owner.news())

    def test_look(self):
        self.assertEqual([(O0, end, ("want", (0, 0))) for end in MEMBERS], self.owner.look())
        self.owner.pay(1, 1)
        self.hear_votes(self.owner, 0, 1, 2)
        self.assertEqual([(O0, end, ("want", (1, 0))) for end in MEMBERS], self.owner.look())

    def test_busy_and_poor(self):
        for amount in (6, 7, 10 ** 17):
            with self.assertRaises(Poor) as caught:
                self.owner.pay(1, amount)
            self.assertEqual(5, caught.exception.has)
        self.assertEqual((0, {}), (self.trust.size(), self.owner.disk.cells()))
        self.owner.pay(1, 3)
        size = self.trust.size()
        for amount in (1, 2, 100):
            check_raises(self, Busy, self.owner.pay, [1, amount])
        self.assertEqual(size, self.trust.size())
        self.hear_votes(self.owner, 1, 2, 3)
        self.owner.pay(1, 2)
        with self.assertRaises(Busy):
            self.owner.pay(1, 1)
        self.hear_votes(self.owner, 1, 2, 3)
        with self.assertRaises(Poor) as caught:
            self.owner.pay(1, 1)
        self.assertEqual(0, caught.exception.has)

    def test_it_pays_again_at_once(self):
        for number in range(1, 6):
            self.owner.pay(0, number)
            self.assertEqual(number, self.trust.content(self.owner.asked())[2])
            self.assertEqual(5, self.owner.has())
            self.hear_votes(self.owner, 0, 1, 3)
        self.assertEqual((5, 0), row_of_shelf(self.trust, SMALL, self.owner.shelf()))

    def test_errors_of_pay(self):
        check_errors(self, lambda to, amount: new_owner(Trust()).pay(to, amount),
                     [("to", 1, BadPurse, BAD_PURSES), ("amount", 5, BadAmount, BAD_AMOUNTS)])
        self.owner.pay(to=1, amount=1)
        check_raises(self, BadPurse, self.owner.pay, [2, 1])
        check_raises(self, BadAmount, self.owner.pay, [1, 0])

    def test_errors_of_a_new_owner(self):
        bad_disks = [None, True, 0, {}, (), "disk", Trust(), self.owner, []]
        check_errors(self, Owner, [
            ("trust", self.trust, BadTrust, BAD_TRUSTS), ("bank", SMALL, BadBank, BAD_BANKS),
            ("purse", 0, BadPurse, BAD_PURSES), ("disk", Disk({}, None), BadDisk, bad_disks),
        ])

    def test_a_payment_is_named_and_written_ahead_of_its_seal(self):
        disk = WatchedDisk(self.trust)
        owner = Owner(self.trust, SMALL, 0, disk)
        owner.pay(1, 4)
        x = owner.asked()
        self.assertEqual([("asked", x, 1, [])], disk.notes)
        self.assertEqual([(O0, x)], seals_of(self.trust))

    def test_book_is_written_ahead_of_asked(self):
        disk = WatchedDisk(self.trust)
        owner = Owner(self.trust, SMALL, 0, disk)
        owner.pay(1, 4)
        x = owner.asked()
        self.hear_votes(owner, 0, 1, 2)
        c = certificate(self.trust, (0, 1, 2), x)
        self.assertEqual([("asked", x), ("book", (c,)), ("asked", None)], [note[:2] for note in disk.notes])

    def test_again_asks_those_of_which_no_vote_was_heard(self):
        self.assertEqual([], self.owner.again())
        asks = self.owner.pay(1, 5)
        self.assertEqual(asks, self.owner.again())
        self.hear_votes(self.owner, 2)
        self.assertEqual(asks[:2] + asks[3:], self.owner.again())
        self.hear_votes(self.owner, 2, 0)
        self.assertEqual([asks[1], asks[3]], self.owner.again())
        # In another life the votes of this one do not count.
        back = new_owner(self.trust, cells=self.owner.disk.cells())
        self.assertEqual(asks, back.again())
        self.assertEqual([], self.hear_votes(back, 1, 3))
        self.assertEqual(5, len(self.hear_votes(back, 2)))
        self.assertEqual([], back.again())

    def test_asks_have_only_what_is_below_the_payment(self):
        trust = Trust()
        owner = new_owner(trust, bank=THREE)
        owner.pay(1, 2)
        x = owner.asked()
        a = paid(trust, 1, 1, 2, 2, x, None, None)
        c, d = certified(trust, THREE, x), certified(trust, THREE, a)
        owner.hear((O1, O0, ("tell", (c,))))
        owner.pay(1, 1)
        y = owner.asked()
        owner.hear((O1, O0, ("tell", (d,))))
        self.assertEqual((c, d), owner.shelf())
        # By the certificate of a members 0, 1 and 2 must know x.
        self.assertEqual([(O0, end, ("ask", y, told)) for end, told in zip(MEMBERS, ((), (), (), (c,)))], owner.again())
        self.assertEqual((c,), may_lack(trust, THREE, (c,), MEMBERS[3]))

    def test_votes_that_do_not_count(self):
        self.owner.pay(1, 5)
        x = self.owner.asked()
        other = pay(self.trust, 0, 1, 1, 4, None, None)
        unsealed = self.trust.name(("vote", 2, x))
        self.trust.seal(MEMBERS[1], unsealed)
        bads = [
            vote_letter(self.trust, 2, other), (MEMBERS[2], O0, ("vote", x)), (MEMBERS[2], O0, ("vote", unsealed)),
            (MEMBERS[3], O0, ("vote", vote(self.trust, 0, x))), (MEMBERS[2], O0, ("vote", ("name", 10 ** 17))),
            vote_letter(self.trust, 3, x, O1),
        ]
        self.hear_votes(self.owner, 0, 1)
        for bad in bads:
            self.assertEqual([], self.owner.hear(bad))
        self.assertEqual(2, len(self.owner.again()))
        self.assertEqual(x, self.owner.asked())
        self.assertEqual([], self.hear_votes(self.owner, 0, 1))
        self.assertEqual(5, len(self.hear_votes(self.owner, 2)))

    def test_a_vote_that_is_not_sealed_does_not_count(self):
        self.owner.pay(1, 5)
        x = self.owner.asked()
        unsealed = self.trust.name(("vote", 2, x))
        self.trust.seal(MEMBERS[1], unsealed)
        self.trust.seal(("owner", 2), unsealed)
        self.owner.hear((MEMBERS[2], O0, ("vote", unsealed)))
        self.assertEqual(4, len(self.owner.again()))
        self.trust.seal(MEMBERS[2], unsealed)
        self.owner.hear((MEMBERS[2], O0, ("vote", unsealed)))
        self.assertEqual(3, len(self.owner.again()))

    def test_no_votes_count_behind_none(self):
        self.owner.pay(1, 1)
        x = self.owner.asked()
        self.hear_votes(self.owner, 0, 1)
        c = certificate(self.trust, (1, 2, 3), x)
        self.assertEqual(5, len(self.owner.hear((O1, O0, ("tell", (c,))))))
        self.assertEqual([], self.owner.hear(vote_letter(self.trust, 2, x)))
        self.assertEqual(4, len(self.owner.pay(1, 1)))
        y = self.owner.asked()
        self.assertEqual([], self.owner.hear(vote_letter(self.trust, 3, x)))
        self.assertEqual(4, len(self.owner.again()))
        self.assertEqual([], self.hear_votes(self.owner, 2, 3))
        self.assertEqual(y, self.owner.asked())

    def test_the_certificate_of_asked_may_come_by_a_tell(self):
        self.owner.pay(1, 1)
        x = self.owner.asked()
        c = certificate(self.trust, (1, 2, 3), x)
        letters = self.owner.hear((MEMBERS[2], O0, ("tell", (c,))))
        self.assertEqual([(O0, end, ("tell", (c,))) for end in [O1] + MEMBERS], letters)
        self.assertEqual({"asked": None, "book": (c,)}, self.owner.disk.cells())
        self.assertEqual([], self.owner.hear((MEMBERS[2], O0, ("tell", (c,)))))

    def test_other_payments_of_its_own_purse_are_passed_over(self):
        own = paid(self.trust, 0, 1, 1, 4, None, None)
        next_one = paid(self.trust, 1, 1, 0, 2, own, None)
        certificates = (certified(self.trust, SMALL, own), certified(self.trust, SMALL, next_one))
        for asked in (False, True):
            if asked:
                self.owner.pay(1, 5)
            self.assertEqual([], self.owner.hear((O1, O0, ("tell", certificates))))
            self.assertEqual((), self.owner.shelf())
        self.assertEqual(4, len(self.owner.again()))
        x = certified(self.trust, SMALL, self.owner.asked())
        self.assertEqual(5, len(self.owner.hear((O1, O0, ("tell", certificates + (x,) + certificates)))))
        self.assertEqual((x,), self.owner.shelf())

    def test_the_next_payment_of_its_purse_is_passed_over_too(self):
        self.owner.pay(1, 1)
        x = certified(self.trust, SMALL, self.owner.asked())
        forged = certified(self.trust, SMALL, paid(self.trust, 0, 2, 1, 1, x[0], None))
        self.owner.hear((O1, O0, ("tell", (x, forged))))
        self.owner.hear((O1, O0, ("tell", (forged,))))
        self.assertEqual(((x,), None, 4), (self.owner.shelf(), self.owner.asked(), self.owner.has()))

    def test_tells_of_others(self):
        a = paid(self.trust, 0, 1, 1, 5, None, None)
        b = paid(self.trust, 1, 1, 0, 2, a, None)
        c, d = certified(self.trust, SMALL, a), certified(self.trust, SMALL, b)
        owner = new_owner(self.trust, 1, fuse=1)
        for sender in (O0, O1, MEMBERS[0]):
            self.assertEqual([], owner.hear((sender, O1, ("tell", (d, c, d)))))
        self.assertEqual(((c,), 0), (owner.shelf(), owner.disk.fuse))
        for told in ((), (c,), (certificate(self.trust, (1, 2, 3), a),)):
            self.assertEqual([], owner.hear((O0, O1, ("tell", told))))

    def test_spoilt_certificates_are_passed_over(self):
        owner = new_owner(self.trust, 1)
        c = certified(self.trust, SMALL, paid(self.trust, 0, 1, 1, 5, None, None))
        for item in bent_certificates(self.trust, c):
            self.assertEqual([], owner.hear((O0, O1, ("tell", (item,)))))
            self.assertEqual((), owner.shelf())
        owner.hear((O0, O1, ("tell", (c,))))
        self.assertEqual((c,), owner.shelf())

    def test_want(self):
        self.assertEqual([], self.owner.hear((O1, O0, ("want", (0, 0)))))
        self.owner.pay(1, 5)
        self.hear_votes(self.owner, 0, 1, 2)
        for row in product(range(3), range(2)):
            above = shelf_above(self.trust, SMALL, self.owner.shelf(), row)
            for sender in (O1, O0, MEMBERS[2]):
                told = [(O0, sender, ("tell", above))] if above else []
                self.assertEqual(told, self.owner.hear((sender, O0, ("want", row))))

    def test_any_value_may_be_heard(self):
        self.owner.pay(1, 5)
        x = self.owner.asked()
        c = certified(self.trust, SMALL, x)
        cells = self.owner.disk.cells()
        good = (O1, O0, ("tell", (c,)))
        size = self.trust.size()
        bads = odd_values() + [
            list(good), good[:2], good + (0,), (O1, O1, good[2]), (O1, MEMBERS[0], good[2]), (O1, ("owner", False), good[2]),
            (("owner", 2), O0, good[2]), (O1, O0, ["tell", (c,)]), (O1, O0, ("tell", [c])), (O1, O0, ("tell", c)),
            (O1, O0, ("tell", (list(c),))), (O1, O0, ("tell", ((x, c[1][::-1]),))), (O1, O0, ("want", (0,))),
            (O1, O0, ("want", (True, 0))), (O1, O0, ("vote", c[1][0])), (MEMBERS[0], O0, ("ask", x, ())),
            (O1, O0, ("ask", x, ())), (O0, MEMBERS[0], ("ask", x, (c,))), (O1, O0, ("tell",)), (O1, O0, good),
        ]
        for bad in bads:
            with self.subTest(bad=bad):
                self.assertEqual([], self.owner.hear(bad))
        self.assertEqual((cells, size), (self.owner.disk.cells(), self.trust.size()))
        self.assertEqual(4, len(self.owner.again()))
        self.assertEqual(5, len(self.owner.hear(good)))

    def test_its_past_is_its_shelf(self):
        trust = Trust()
        owners = [new_owner(trust, purse, bank=THREE) for purse in range(3)]
        for at, (purse, to, amount) in enumerate([(0, 1, 3), (1, 2, 2), (0, 2, 1), (2, 0, 2), (0, 0, 3), (1, 1, 1)]):
            owner = owners[purse]
            lot = tuple(sorted(item[0] for item in owner.shelf()))
            size = trust.size()
            owner.pay(to, amount)
            payment = owner.asked()
            self.assertEqual(content_for(trust, THREE, lot, purse, to, amount), trust.content(payment))
            self.assertEqual(tuple(sorted(lot + (payment,))), past_of(trust, THREE, payment))
            self.assertTrue(is_right(trust, THREE, payment) and trust.sealed(("owner", purse), payment))
            self.assertEqual(size + 1, trust.size())
            told = (("member", 0), ("owner", purse), ("tell", (certified(trust, THREE, payment),)))
            for letter in owner.hear(told):
                if letter[1][0] == "owner" and at != 2:
                    owners[letter[1][1]].hear(letter)


def told_key(letter):
    """Owners ahead of members."""
    return (letter[1][0] != "owner", letter[1][1])


class ComingUp(unittest.TestCase):
    def test_none_is_written_if_the_payment_is_booked(self):
        trust = Trust()
        x = paid(trust, 0, 1, 1, 5, None, None)
        c = certified(trust, SMALL, x)
        disk = WatchedDisk(trust, {"book": (c,), "asked": x})
        owner = Owner(trust, SMALL, 0, disk)
        self.assertEqual([("asked", None)], [note[:2] for note in disk.notes])
        self.assertEqual((None, (c,), 0), (owner.asked(), owner.shelf(), owner.has()))

    def test_it_may_fall_coming_up(self):
        trust = Trust()
        x = paid(trust, 0, 1, 1, 5, None, None)
        cells = {"book": (certified(trust, SMALL, x),), "asked": x}
        disk = Disk(cells, 0)
        check_raises(self, Fell, Owner, [trust, SMALL, 0, disk])
        self.assertEqual(cells, disk.cells())

    def test_another_one_is_sealed_once_more(self):
        for sealed in (False, True):
            trust = Trust()
            x = pay(trust, 0, 1, 1, 5, None, None)
            if sealed:
                trust.seal(O0, x)
            disk = WatchedDisk(trust, {"asked": x}, 0)
            owner = Owner(trust, SMALL, 0, disk)
            self.assertEqual(([], [(O0, x)], x), (disk.notes, seals_of(trust), owner.asked()))
            self.assertEqual([(O0, end, ("ask", x, ())) for end in MEMBERS], owner.again())

    def test_nothing_is_done_without_an_open_payment(self):
        trust = Trust()
        x = paid(trust, 0, 1, 1, 5, None, None)
        c = certified(trust, SMALL, x)
        for cells in ({}, {"asked": None}, {"book": (c,)}, {"book": (c,), "asked": None}):
            disk = WatchedDisk(trust, cells, 0)
            size = trust.size()
            self.assertIsNone(Owner(trust, SMALL, 0, disk).asked())
            self.assertEqual(([], size, cells), (disk.notes, trust.size(), disk.cells()))

    def test_falls_at_each_write_of_a_payment(self):
        """Writes: asked, book, None; it comes back behind each, and goes on."""
        for fuse in range(4):
            trust = Trust()
            disk = Disk({}, fuse)
            owner = Owner(trust, SMALL, 0, disk)
            sealed = []
            try:
                owner.pay(1, 2)
                for member in (0, 1, 2):
                    owner.hear(vote_letter(trust, member, owner.asked()))
            except Fell:
                sealed = seals_of(trust)
            x = trust.name(("pay", 0, 1, 1, 2, (None, None)))
            self.assertEqual(fuse == 0, not trust.sealed(O0, x))
            c = (x, tuple(sorted(vote(trust, member, x) for member in (0, 1, 2))))
            cells = [{}, {"asked": x}, {"asked": x, "book": (c,)}, {"asked": None, "book": (c,)}][fuse]
            self.assertEqual(cells, disk.cells())
            back = new_owner(trust, cells=disk.cells())
            self.assertEqual(x if fuse == 1 else None, back.asked())
            self.assertEqual(3 if fuse > 1 else 5, back.has())
            self.assertTrue(fuse > 2 or sealed or fuse == 0)


class Falls(unittest.TestCase):
    def setUp(self):
        self.trust = Trust()

    def test_once_whatever_falls_and_letters(self):
        """All falls of an owner that pays three times, each at one of its writes or between letters."""
        for fuses in product((None, 0, 1, 2, 3, 4), repeat=2):
            for lost in (False, True):
                self.check_once(fuses, lost)

    def check_once(self, fuses, lost):
        trust = Trust()
        members = [Member(trust, SMALL, number, Disk({}, None)) for number in range(4)]
        disk = Disk({}, fuses[0])
        owner = Owner(trust, SMALL, 0, disk)
        lives = list(fuses[1:]) + [None] * 20
        seen = ()
        for _ in range(12):
            try:
                letters = owner.again() if owner.asked() else owner.pay(1, 1)
                for letter in letters[1:] if lost else letters:
                    for answer in members[letter[1][1]].hear(letter):
                        owner.hear(answer)
            except Fell:
                disk = Disk(disk.cells(), lives.pop(0))
                try:
                    owner = Owner(trust, SMALL, 0, disk)
                except Fell:
                    disk = Disk(disk.cells(), None)
                    owner = Owner(trust, SMALL, 0, disk)
            except Poor as poor:
                self.assertEqual(0, poor.has)
            self.check_seals(trust, disk, seen)
            seen = disk.cells().get("book", ())
        self.assertEqual((0, None, 5), (owner.has(), owner.asked(), len(owner.shelf())))

    def check_seals(self, trust, disk, seen):
        """No two payments with one number are sealed, each is right, and asked or on the shelf."""
        book = disk.cells().get("book", ())
        self.assertEqual(seen, book[:len(seen)])
        sealed = [name for who, name in seals_of(trust) if who == O0]
        self.assertEqual(len(sealed), len({trust.content(name)[2] for name in sealed}))
        for name in sealed:
            self.assertTrue(is_right(trust, SMALL, name))
            self.assertIn(name, [item[0] for item in book] + [disk.cells().get("asked")])

    def test_it_ends_whatever_sequence_and_whoever_lies(self):
        for liar in range(4):
            honest = [number for number in range(4) if number != liar]
            for row in permutations(honest):
                trust = Trust()
                members = {number: Member(trust, SMALL, number, Disk({}, None)) for number in honest}
                owner = new_owner(trust)
                letters = owner.pay(1, 5)
                answers = [members[number].hear(letters[number])[0] for number in row]
                results = [owner.hear(answer) for answer in answers]
                self.assertEqual([0, 0, 5], [len(told) for told in results])
                self.assertIsNone(owner.asked())

    def test_known_by_looking(self):
        """What lies + 1 members have booked is found when need members answer, one of them lying."""
        for booked in permutations(range(4), 2):
            for heard in permutations(range(4), 3):
                self.check_looking(booked, heard)

    def check_looking(self, booked, heard):
        trust = Trust()
        a = paid(trust, 0, 1, 1, 5, None, None)
        c = certified(trust, SMALL, a)
        members = [Member(trust, SMALL, number, Disk({"book": (c,)} if number in booked else {}, None)) for number in range(4)]
        owner = new_owner(trust, 1)
        liar = [number for number in range(4) if number not in booked][0]
        for letter in owner.look():
            if letter[1][1] in heard:
                answers = members[letter[1][1]].hear(letter) if letter[1][1] != liar else []
                for answer in answers:
                    owner.hear(answer)
        self.assertEqual((c,), owner.shelf())


if __name__ == "__main__":
    unittest.main()
