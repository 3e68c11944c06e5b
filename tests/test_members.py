"""[41]: members that keep to their rules."""

import random
import unittest
from itertools import permutations, product

from pursesapart.court import named
from pursesapart.disks import Disk
from pursesapart.errors import BadBank, BadDisk, BadLetter, BadMember, BadTrust, Fell
from pursesapart.letters import is_letter
from pursesapart.members import Member
from pursesapart.shelves import row_of_shelf, shelf_above, taken_in
from pursesapart.trust import Trust
from pursesapart.votes import is_vote
from tests.helpers import BAD_BANKS, BAD_TRUSTS, LONG, SMALL, THREE, bent_certificates, certificate, certified
from tests.helpers import check_errors, odd_values, paid, pay
from tests.plain import Plain
from tests.watch import WatchedDisk, seals_of, sealed_contents
from tests.webs import grow

ME = ("member", 3)
OWNER = ("owner", 0)


def ask(payment, *certificates, sender=OWNER, receiver=ME):
    return (sender, receiver, ("ask", payment, certificates))


def tell(*certificates, sender=OWNER, receiver=ME):
    return (sender, receiver, ("tell", certificates))


def want(*row, sender=OWNER, receiver=ME):
    return (sender, receiver, ("want", row))


def new_member(trust, bank=SMALL, cells=None, fuse=None):
    return Member(trust, bank, 3, Disk({} if cells is None else cells, fuse))


class Members(unittest.TestCase):
    def setUp(self):
        self.trust = Trust()
        self.a = paid(self.trust, 0, 1, 1, 5, None, None)
        self.b = paid(self.trust, 1, 1, 0, 2, self.a, None)
        self.rival = paid(self.trust, 0, 1, 1, 4, None, None)
        self.c = certificate(self.trust, (0, 1, 2), self.a)
        self.d = certificate(self.trust, (0, 1, 2), self.b)
        self.member = new_member(self.trust)

    def check_vote(self, payment, sender, answer):
        """The answer votes for the payment, and the vote is sealed."""
        size = self.trust.size()
        name = self.trust.name(("vote", 3, payment))
        self.assertEqual(size, self.trust.size())
        self.assertTrue(self.trust.sealed(ME, name))
        self.assertEqual([(ME, sender, ("vote", name))], answer)

    def test_a_new_member(self):
        self.assertEqual((), self.member.shelf())
        self.assertEqual((), self.member.voted())
        self.assertEqual((0, 0), self.member.row())
        self.assertIs(self.trust, self.member.trust)
        self.assertEqual((SMALL, 3), (self.member.bank, self.member.number))
        self.assertIsInstance(self.member.disk, Disk)

    def test_it_comes_up_with_what_is_there_and_writes_nothing(self):
        cells = {"book": (self.c, self.d), "votes": (self.a, self.b), "else": 7}
        size = self.trust.size()
        disk = WatchedDisk(self.trust, cells, 0)
        member = Member(self.trust, SMALL, 3, disk)
        self.assertEqual(((self.c, self.d), (self.a, self.b), (1, 1)), (member.shelf(), member.voted(), member.row()))
        self.assertIs(disk, member.disk)
        self.assertEqual(([], size, cells), (disk.notes, self.trust.size(), disk.cells()))

    def test_example_by_hand(self):
        member = new_member(self.trust)
        self.assertEqual([], member.hear(ask(self.b)))
        disk = Disk({}, 1)
        member = Member(self.trust, SMALL, 3, disk)
        with self.assertRaises(Fell):
            member.hear(ask(self.b, self.c))
        self.assertEqual({"book": (self.c,)}, disk.cells())
        self.assertEqual(((self.c,), (), (1, 0)), (member.shelf(), member.voted(), member.row()))
        member = Member(self.trust, SMALL, 3, Disk(disk.cells(), None))
        self.check_vote(self.b, OWNER, member.hear(ask(self.b)))
        self.assertEqual([(ME, OWNER, ("tell", (self.c,)))], member.hear(want(0, 0)))
        self.assertEqual([(ME, OWNER, ("tell", ()))], member.hear(want(1, 0)))

    def test_want(self):
        member = new_member(self.trust, cells={"book": (self.c, self.d)})
        for row in product(range(3), range(3)):
            above = shelf_above(self.trust, SMALL, (self.c, self.d), row)
            for sender in (OWNER, ("owner", 1), ("member", 0), ME):
                self.assertEqual([(ME, sender, ("tell", above))], member.hear(want(*row, sender=sender)))
        self.assertEqual({"book": (self.c, self.d)}, member.disk.cells())

    def test_tell(self):
        for sender in (OWNER, ("owner", 1), ("member", 0), ME):
            member = new_member(self.trust)
            self.assertEqual([], member.hear(tell(self.d, self.c, sender=sender)))
            self.assertEqual({"book": (self.c,)}, member.disk.cells())
            self.assertEqual([], member.hear(tell(self.d, sender=sender)))
            self.assertEqual(((self.c, self.d), (1, 1), ()), (member.shelf(), member.row(), member.voted()))

    def test_only_another_shelf_is_written(self):
        member = new_member(self.trust, fuse=1)
        member.hear(tell(self.c))
        for letter in (tell(), tell(self.c), tell(self.c, self.c), tell(certificate(self.trust, (1, 2, 3), self.a)),
                       tell((("name", LONG - 1), ())), ask(self.rival, self.c)[:2] + (("tell", ()),), want(0, 0)):
            member.hear(letter)
        self.assertEqual(0, member.disk.fuse)
        member = new_member(self.trust, fuse=0)
        for letter in (tell(), tell(self.d), want(0, 0)):
            member.hear(letter)
        with self.assertRaises(Fell):
            member.hear(tell(self.c))

    def test_ask(self):
        self.check_vote(self.a, OWNER, self.member.hear(ask(self.a)))
        self.assertEqual({"votes": (self.a,)}, self.member.disk.cells())
        self.assertEqual([], self.member.hear(ask(self.b)))
        self.check_vote(self.b, OWNER, self.member.hear(ask(self.b, self.c)))
        self.assertEqual({"book": (self.c,), "votes": (self.a, self.b)}, self.member.disk.cells())

    def test_the_answer_goes_to_whoever_asks(self):
        for sender in (OWNER, ("owner", 1)):
            self.check_vote(self.a, sender, self.member.hear(ask(self.a, sender=sender)))

    def test_the_same_ask_again_has_the_same_answer_and_no_write(self):
        answer = self.member.hear(ask(self.a))
        self.check_vote(self.a, OWNER, answer)
        size = self.trust.size()
        self.member.disk.fuse = 0
        for _ in range(3):
            self.assertEqual(answer, self.member.hear(ask(self.a)))
        self.assertEqual(size, self.trust.size())
        self.assertEqual((self.a,), self.member.voted())

    def test_two_payments_that_clash(self):
        for first, second in ((self.a, self.rival), (self.rival, self.a)):
            member = new_member(self.trust)
            self.check_vote(first, OWNER, member.hear(ask(first)))
            self.assertEqual([], member.hear(ask(second)))
            self.check_vote(first, OWNER, member.hear(ask(first)))
            self.assertEqual((first,), member.voted())
            back = new_member(self.trust, cells=member.disk.cells())
            self.assertEqual([], back.hear(ask(second)))
            self.check_vote(first, OWNER, back.hear(ask(first)))

    def test_the_certificates_of_an_ask_are_taken_in_even_without_a_vote(self):
        self.member.hear(ask(self.rival))
        self.assertEqual([], self.member.hear(ask(self.a, self.c)))
        self.assertEqual(((self.c,), (self.rival,)), (self.member.shelf(), self.member.voted()))
        # What is on the shelf may clash with what it votes for: only votes stand against votes.
        other = new_member(self.trust, cells={"book": (self.c,)})
        self.check_vote(self.rival, OWNER, other.hear(ask(self.rival)))

    def test_no_vote_without_the_seal_of_the_owner(self):
        payment = pay(self.trust, 0, 1, 1, 1, None, None)
        self.trust.seal(("owner", 1), payment)
        self.trust.seal(("member", 0), payment)
        self.trust.seal(ME, payment)
        self.assertEqual([], self.member.hear(ask(payment)))
        self.assertEqual({}, self.member.disk.cells())
        self.trust.seal(OWNER, payment)
        self.check_vote(payment, OWNER, self.member.hear(ask(payment)))

    def test_no_vote_for_what_is_not_right(self):
        poor = paid(self.trust, 0, 1, 1, 6, None, None)
        late = paid(self.trust, 0, 2, 1, 1, None, None)
        odd = self.trust.name("pay")
        self.trust.seal(OWNER, odd)
        for payment in (poor, late, odd, ("name", self.trust.size()), ("name", LONG - 1), self.c[1][0]):
            self.assertEqual([], self.member.hear(ask(payment)))
            self.assertEqual([], self.member.hear(ask(payment, self.c, self.d)))
        self.assertEqual((), self.member.voted())

    def test_all_causes_must_be_on_the_shelf(self):
        e = paid(self.trust, 0, 2, 1, 1, self.a, self.b)
        for shelf, answers in [((), False), ((self.c,), False), ((self.c, self.d), True)]:
            member = new_member(self.trust, cells={"book": shelf})
            answer = member.hear(ask(e))
            if answers:
                self.check_vote(e, OWNER, answer)
            else:
                self.assertEqual([], answer)

    def test_other_receivers(self):
        for receiver in (("member", 0), ("member", 2)):
            for letter in (ask(self.a, self.c, receiver=receiver), tell(self.c, receiver=receiver),
                           want(0, 0, receiver=receiver)):
                self.assertEqual([], self.member.hear(letter))
        for letter in (tell(self.c, receiver=OWNER), want(0, 0, receiver=("owner", 1)),
                       (("member", 0), OWNER, ("vote", self.c[1][0])), (ME, OWNER, ("vote", self.c[1][0]))):
            self.assertEqual([], self.member.hear(letter))
        self.assertEqual({}, self.member.disk.cells())

    def test_what_is_no_letter(self):
        self.member.hear(tell(self.c))
        cells = self.member.disk.cells()
        size = self.trust.size()
        bads = odd_values() + [
            list(ask(self.a)), ask(self.a)[:2], ask(self.a) + (None,), ask(self.a, sender=("member", 0)),
            ask(self.a, sender=("owner", 2)), ask(self.a, receiver=("member", True)), ask(self.a, receiver=OWNER),
            (OWNER, ME, ("ask", self.a, [])), (OWNER, ME, ["ask", self.a, ()]), (OWNER, ME, ("vote", self.c[1][0])),
            (OWNER, ME, ("tell", [self.d])), (OWNER, ME, ("want", [0, 0])), want(0), want(0, 0, 0), want(True, 0),
            want(0, -1), (OWNER, ME, ("ask", self.a)), tell(list(self.d)), tell((self.b, self.d[1][::-1])), tell(None),
            (OWNER, list(ME), ("want", (0, 0))), (OWNER, ME, ("tell", self.d)), ask(("name", True)),
        ]
        for bad in bads:
            with self.subTest(bad=bad), self.assertRaises(BadLetter):
                self.member.hear(bad)
        self.assertEqual((cells, size), (self.member.disk.cells(), self.trust.size()))

    def test_spoilt_certificates_are_passed_over(self):
        passed = 0
        for item in bent_certificates(self.trust, self.c):
            letter = tell(item, self.c)
            if is_letter(SMALL, letter):
                passed += 1
                member = new_member(self.trust)
                self.assertEqual([], member.hear(letter))
                self.assertEqual((self.c,), member.shelf())
        self.assertGreater(passed, 5)

    def test_votes_are_written_ahead_of_the_name_and_the_seal(self):
        disk = WatchedDisk(self.trust)
        member = Member(self.trust, SMALL, 3, disk)
        size = self.trust.size()
        seals = seals_of(self.trust)
        member.hear(ask(self.b, self.c))
        self.assertEqual([("book", (self.c,), size, seals), ("votes", (self.b,), size, seals)], disk.notes)
        self.assertEqual(size + 1, self.trust.size())

    def test_back_between_the_write_and_the_seal(self):
        member = new_member(self.trust, cells={"votes": (self.a,)}, fuse=0)
        size = self.trust.size()
        answer = member.hear(ask(self.a))
        self.assertEqual(size + 1, self.trust.size())
        self.check_vote(self.a, OWNER, answer)
        self.assertEqual([], member.hear(ask(self.rival)))

    def test_falls_at_each_write(self):
        for fuse in range(3):
            trust = Trust()
            a = paid(trust, 0, 1, 1, 5, None, None)
            b = paid(trust, 1, 1, 0, 2, a, None)
            c = certificate(trust, (0, 1, 2), a)
            size = trust.size()
            disk = Disk({}, fuse)
            member = Member(trust, SMALL, 3, disk)
            if fuse < 2:
                with self.assertRaises(Fell):
                    member.hear(ask(b, c))
                self.assertEqual(size, trust.size())
            else:
                member.hear(ask(b, c))
            self.assertEqual([{}, {"book": (c,)}, {"book": (c,), "votes": (b,)}][fuse], disk.cells())
            self.assertEqual(disk.cells().get("book", ()), member.shelf())
            self.assertEqual(disk.cells().get("votes", ()), member.voted())
            self.assertEqual((int(fuse > 0), 0), member.row())
            back = Member(trust, SMALL, 3, Disk(disk.cells(), None))
            self.assertEqual("vote", back.hear(ask(b, c))[0][2][0])

    def test_errors(self):
        bad_members = [-1, 4, True, False, None, "0", (0,), [0], LONG, {}, Trust()]
        bad_disks = [None, True, 0, {}, (), "disk", Trust(), self.member, []]
        check_errors(self, Member, [
            ("trust", self.trust, BadTrust, BAD_TRUSTS), ("bank", SMALL, BadBank, BAD_BANKS),
            ("number", 0, BadMember, bad_members), ("disk", Disk({}, None), BadDisk, bad_disks),
        ])
        check_errors(self, self.member.hear, [("letter", want(0, 0), BadLetter, [None, (), ask(None)])])


def small_world():
    """A trust, the letters out of which sequences are made, and the names of the payments."""
    trust = Trust()
    a = paid(trust, 0, 1, 1, 5, None, None)
    rival = paid(trust, 0, 1, 1, 4, None, None)
    b = paid(trust, 1, 1, 0, 2, a, None)
    c = certificate(trust, (0, 1, 2), a)
    d = certificate(trust, (0, 1, 2), b)
    return trust, [ask(a), ask(rival), ask(b), ask(b, c), tell(d, c), want(0, 0)], (a, rival, b)


class Sequences(unittest.TestCase):
    def check_kept(self, trust, member, seen):
        """No paper against it, nothing lost from its shelf, and all causes of what it has voted for are there."""
        votes = [("name", at) for at in range(trust.size()) if is_vote(trust, SMALL, ("name", at))]
        self.assertNotIn(3, [pair[0] for pair in named(trust, SMALL, votes)])
        self.assertEqual(seen, member.shelf()[:len(seen)])
        here = [item[0] for item in member.shelf()]
        for payment in member.voted():
            self.assertTrue(all(cause in here for cause in trust.content(payment)[5] if cause is not None))

    def test_all_sequences_with_a_fall_anywhere(self):
        for many in (3, 4):
            for row in permutations(range(6), many):
                for at, fuse in [(None, 0)] + [(at, fuse) for at in range(many) for fuse in (0, 1)]:
                    self.check_run(row, at, fuse)

    def check_run(self, row, at, fuse):
        """The letters of the row, with so many more writes from that place on, where it comes back."""
        trust, letters, _ = small_world()
        member = new_member(trust)
        seen = ()
        for place, number in enumerate(row):
            if place == at:
                member.disk.fuse = fuse
            try:
                member.hear(letters[number])
            except Fell:
                self.check_kept(trust, member, seen)
                member = new_member(trust, cells=member.disk.cells())
            self.check_kept(trust, member, seen)
            seen = member.shelf()

    def test_falls_are_lost_letters(self):
        for row in permutations(range(6), 3):
            for fuse in (0, 1, 2):
                trust, letters, _ = small_world()
                member = new_member(trust, fuse=fuse)
                lost = False
                for at, number in enumerate(row):
                    try:
                        member.hear(letters[number])
                    except Fell:
                        lost = True
                        self.assertIn((member.disk.cells(), sealed_contents(trust)), self.without(row, at))
                        break
                self.assertTrue(lost or member.disk.fuse is not None)

    def without(self, row, at):
        """Cells and seals behind these letters, if that one had not come, and if it had been a tell."""
        told = []
        for letter_kept in (False, True):
            trust, letters, _ = small_world()
            member = new_member(trust)
            for number in row[:at]:
                member.hear(letters[number])
            letter = letters[row[at]]
            if letter_kept and letter[2][0] == "ask":
                member.hear(tell(*letter[2][2]))
            told.append((member.disk.cells(), sealed_contents(trust)))
        return told

    def test_no_sequence_is_wanted(self):
        for seed in range(12):
            plain, names = grow(seed, THREE, 6)
            for name in names:
                plain.trust.seal(("owner", plain.place(name)[0]), name)
            dice = random.Random(seed)
            asked = dice.sample(names, 3)
            below = set().union(*(plain.below(name) for name in asked))
            if plain.clashes(below):
                continue
            self.check_asked(plain, asked, below)

    def check_asked(self, plain, asked, below):
        """These are asked in each sequence, doubled too."""
        letters = {name: ask(name, *[certified(plain.trust, THREE, one) for one in sorted(plain.below(name))])
                   for name in asked}
        for row in list(permutations(asked)) + [asked + asked[::-1], asked[::-1] + asked]:
            member = new_member(plain.trust, THREE)
            for name in row:
                member.hear(letters[name])
            self.assertEqual(below, {item[0] for item in member.shelf()})
            firsts = []
            for name in row:
                if plain.place(name) not in [plain.place(one) for one in firsts]:
                    firsts.append(name)
            self.assertEqual(firsts, list(member.voted()))

    def test_each_sequence_ends_with_all_votes_exactly_if_none_clash(self):
        trust, letters, (a, rival, b) = small_world()
        for some, clash in (((0, 3), False), ((1, 3), False), ((0, 1, 3), True)):
            for row in permutations(some):
                member = new_member(trust)
                for number in row:
                    member.hear(letters[number])
                self.assertEqual(len(some) - clash, len(member.voted()))
                self.assertEqual((1, 0), member.row())

    def test_a_shelf_is_just_what_is_taken_in(self):
        for seed in range(15):
            plain, names = grow(seed, THREE, 8)
            dice = random.Random(seed)
            for name in names:
                plain.trust.seal(("owner", plain.place(name)[0]), name)
            items = [certified(plain.trust, THREE, name) for name in names]
            member = new_member(plain.trust, THREE)
            shelf = ()
            for _ in range(12):
                some = tuple(dice.choices(items, k=3))
                member.hear(tell(*some))
                shelf = taken_in(plain.trust, THREE, shelf, some)
                self.assertEqual((shelf, row_of_shelf(plain.trust, THREE, shelf)), (member.shelf(), member.row()))
            self.assertTrue(Plain(plain.trust, THREE).is_lot([item[0] for item in shelf]))


if __name__ == "__main__":
    unittest.main()
