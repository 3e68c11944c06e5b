"""[80] and [81]: runs, their events and what is kept of them."""

import unittest

from pursesapart.errors import BadAmount, BadBank, BadCheats, BadContent, BadFuse, BadLetter, BadLiars, BadMember, BadNumber
from pursesapart.errors import BadPurse, BadWho, Busy, Gone, NotGone, Poor
from pursesapart.members import Member
from pursesapart.owners import Owner
from pursesapart.runs import Play
from pursesapart.trust import Trust
from tests.helpers import BAD_AMOUNTS, BAD_BANKS, BAD_CONTENTS, LONG, SMALL, check_errors, check_raises, odd_values
from tests.watch import seals_of

NO_ENDS = [
    None, True, 0, "owner", (), ("owner",), ("owner", 2), ("owner", -1), ("owner", True), ("owner", "0"), ("member", 4),
    ("member", False), ("member", LONG), ["owner", 0], ("owner", 0, 0), ("Owner", 0), ("name", 0), {}, (None, 0), Trust(),
]
NO_FUSES = [-1, True, False, "0", (), [], {}, (0,), LONG, Trust()]


def honest(play):
    """All ends that do not lie."""
    owners = [("owner", purse) for purse in range(len(play.bank[0])) if purse not in play.cheats]
    return owners + [("member", member) for member in range(play.bank[1]) if member not in play.liars]


def state_of(play):
    """All that can be seen of a run."""
    ends = honest(play)
    cells = [(end, play.is_gone(end), play.cells_of(end), play.shelf_of(end)) for end in ends]
    heard = [play.owner_at(end[1]).again() for end in ends if end[0] == "owner" and not play.is_gone(end)]
    letters = [play.letter(number) for number in range(play.count())]
    return (cells, heard, letters, play.moment(), play.trust.size(), seals_of(play.trust), play.ledger(), play.calls())


def bring_all(play, first=0):
    """Brings each letter from the first one on once, those that follow too."""
    number = first
    while number < play.count():
        play.bring(number)
        number += 1


class Runs(unittest.TestCase):
    def setUp(self):
        self.play = Play(SMALL, [], [])

    def refused(self, error, function, *arguments):
        """The event raises just this error, and changes nothing."""
        play = function.__self__
        before = state_of(play)
        check_raises(self, error, function, list(arguments))
        self.assertEqual(before, state_of(play))

    def test_a_new_run(self):
        play = Play(SMALL, [1, 3], (0,))
        self.assertEqual((SMALL, (1, 3), (0,)), (play.bank, play.liars, play.cheats))
        self.assertIsInstance(play.trust, Trust)
        self.assertEqual((0, 0, 0, (), ()), (play.trust.size(), play.count(), play.moment(), play.ledger(), play.calls()))
        for end in [("owner", 1), ("member", 0), ("member", 2)]:
            self.assertEqual((False, {}, ()), (play.is_gone(end), play.cells_of(end), play.shelf_of(end)))
        self.assertIsInstance(play.owner_at(1), Owner)
        self.assertIsInstance(play.member_at(2), Member)
        self.assertIsNone(play.owner_at(1).disk.fuse)
        self.assertIs(play.trust, play.member_at(0).trust)
        self.assertIsNot(Play(SMALL, [], []).trust, play.trust)

    def test_what_is_passed_is_not_kept(self):
        liars, cheats = [1], [0]
        play = Play(SMALL, liars, cheats)
        liars.append(2)
        cheats.append(1)
        self.assertEqual(((1,), (0,)), (play.liars, play.cheats))
        self.assertFalse(play.is_gone(("member", 2)))

    def test_example_by_hand(self):
        play = Play(((5, 0), 4, 1), [3], [])
        self.assertIsNone(play.pay(0, 1, 5))
        self.assertEqual(4, play.count())
        x = play.owner_at(0).asked()
        for number in (0, 1, 2):
            self.assertIsNone(play.bring(number))
        self.assertEqual([("member", member) for member in range(3)], [play.letter(number)[0] for number in (4, 5, 6)])
        for number in (4, 5, 6):
            play.bring(number)
        self.assertEqual((7, ((x, 7),), ((0, x, 1, 7),)), (play.moment(), play.ledger(), play.calls()))
        receivers = [play.letter(number)[1] for number in range(7, play.count())]
        self.assertEqual([("owner", 1)] + [("member", member) for member in range(4)], receivers)

    def test_letters_lie_on_the_road_for_ever(self):
        self.play.pay(0, 1, 5)
        for _ in range(3):
            self.play.bring(2)
        self.assertEqual((7, 4), (self.play.count(), self.play.moment()))
        self.assertEqual([self.play.letter(4)] * 3, [self.play.letter(number) for number in (4, 5, 6)])
        self.play.bring(0)
        self.assertEqual([4, 5, 6, 7], self.play.waiting(("owner", 0)))
        self.assertEqual([2], self.play.waiting(("member", 2)))
        self.assertEqual([], self.play.waiting(("owner", 1)))

    def test_every_event_has_its_moment(self):
        play = Play(SMALL, [3], [1])
        events = [
            (play.pay, (0, 1, 1), 4), (play.again, (0,), 4), (play.news, (0,), 0), (play.look, (0,), 4), (play.bring, (0,), 1),
            (play.bring, (3,), 0), (play.fall, (("owner", 0), 5), 0), (play.fall, (("member", 0), None), 0),
            (play.bring, (0,), 0), (play.back, (("member", 0),), 0), (play.lie, (("member", 3), "x"), 0),
            (play.send, ((("owner", 1), ("member", 0), ("tell", ())),), 1),
        ]
        for at, (event, arguments, letters) in enumerate(events):
            count = play.count()
            event(*arguments)
            self.assertEqual((at + 1, count + letters), (play.moment(), play.count()))
        for asking in (play.count, play.moment, play.ledger, play.calls):
            asking()
        self.assertEqual(len(events), play.moment())

    def test_again_news_and_look(self):
        self.play.pay(0, 1, 5)
        self.play.again(0)
        self.assertEqual([self.play.letter(number) for number in range(4)], [self.play.letter(number) for number in range(4, 8)])
        self.play.bring(1)
        self.play.bring(8)
        self.play.again(purse=0)
        self.assertEqual([("member", 0), ("member", 2), ("member", 3)], [self.play.letter(at)[1] for at in (9, 10, 11)])
        self.play.look(1)
        self.assertEqual([(("owner", 1), ("member", member), ("want", (0, 0))) for member in range(4)],
                         [self.play.letter(at) for at in range(12, 16)])
        self.assertEqual(16, self.play.count())
        bring_all(self.play)
        count = self.play.count()
        self.play.news(0)
        owner = self.play.owner_at(0)
        self.assertEqual(owner.news(), [self.play.letter(number) for number in range(count, self.play.count())])
        self.assertGreater(self.play.count(), count)

    def test_errors_of_a_run(self):
        lists = [None, True, 0, "ab", {}, {1: 2}, Trust(), [1, 1], [2, 1], [-1], [True], [None], ["1"], [[1]], [0, True],
                 [False, 1], [LONG]]
        check_errors(self, Play, [("bank", SMALL, BadBank, BAD_BANKS), ("liars", [1, 3], BadLiars, lists + [[4], (0, 4)]),
                                  ("cheats", (0, 1), BadCheats, lists + [[2], (0, 2)])])
        Play(SMALL, [0, 1, 2, 3], [0, 1])

    def test_errors_of_pay(self):
        play = Play(SMALL, [], [1])
        for purse in [1, -1, 2, True, False, None, "0", (0,), [0], LONG]:
            self.refused(BadPurse, play.pay, purse, 5, True)
            for event in (play.again, play.news, play.look):
                self.refused(BadPurse, event, purse)
        for to in [2, -1, True, None, "0", [0]]:
            self.refused(BadPurse, play.pay, 0, to, 0)
        for amount in BAD_AMOUNTS:
            self.refused(BadAmount, play.pay, 0, 1, amount)
        self.refused(Poor, play.pay, 0, 1, 6)
        play.pay(0, 1, 5)
        self.refused(Busy, play.pay, 0, 1, 6)
        play.fall(("owner", 0), None)
        self.refused(Gone, play.pay, 0, 2, 0)
        for event in (play.again, play.news, play.look):
            self.refused(Gone, event, 0)

    def test_errors_of_bring_and_letter(self):
        self.play.pay(0, 1, 5)
        for number in [-1, 4, 100, True, False, None, "0", (0,), [0], LONG, Trust()]:
            self.refused(BadNumber, self.play.bring, number)
            self.refused(BadNumber, self.play.letter, number)
        self.refused(BadNumber, Play(SMALL, [], []).bring, 0)

    def test_errors_of_fall_and_back(self):
        play = Play(SMALL, [0], [1])
        for who in NO_ENDS + [("member", 0), ("owner", 1)]:
            self.refused(BadWho, play.fall, who, -1)
            self.refused(BadWho, play.back, who)
        for writes in NO_FUSES:
            self.refused(BadFuse, play.fall, ("owner", 0), writes)
        for who in (("owner", 0), ("member", 2)):
            self.refused(NotGone, play.back, who)
            play.fall(who, None)
            for writes in (None, 0, 3):
                self.refused(Gone, play.fall, who, writes)
            self.refused(BadFuse, play.fall, who, -1)
            play.back(who)
            self.refused(NotGone, play.back, who)
            play.fall(who, 0)
            self.refused(NotGone, play.back, who)

    def test_errors_of_lie_and_send(self):
        play = Play(SMALL, [0], [1])
        for who in NO_ENDS + [("member", 1), ("owner", 0)]:
            self.refused(BadWho, play.lie, who, True)
        for content in BAD_CONTENTS + [("name", 0)]:
            if content != ("name", True):
                self.refused(BadContent, play.lie, ("member", 0), content)
        self.refused(BadLetter, play.send, (("owner", 2), ("member", 0), ("tell", ())))
        for letter in odd_values():
            self.refused(BadLetter, play.send, letter)
        for sender in [("owner", 0), ("member", 1)]:
            self.refused(BadWho, play.send, (sender, ("member", 0), ("tell", ())))

    def test_errors_of_questions(self):
        play = Play(SMALL, [0], [1])
        for who in NO_ENDS + [("member", 0), ("owner", 1)]:
            for question in (play.is_gone, play.cells_of, play.shelf_of):
                self.refused(BadWho, question, who)
        for end in NO_ENDS:
            self.refused(BadWho, play.waiting, end)
        for end in [("member", 0), ("owner", 1), ("owner", 0)]:
            self.assertEqual([], play.waiting(end))
        for purse in [1, 2, -1, True, False, None, "0", [0]]:
            self.refused(BadPurse, play.owner_at, purse)
        for member in [0, 4, -1, True, False, None, "1", [1]]:
            self.refused(BadMember, play.member_at, member)

    def test_lies_and_letters_of_ends_that_lie(self):
        play = Play(SMALL, [3], [0])
        content = ("pay", 0, 1, 1, 5, (None, None))
        name = play.lie(("owner", 0), content)
        self.assertEqual(content, play.trust.content(name))
        self.assertTrue(play.trust.sealed(("owner", 0), name))
        self.assertEqual(name, play.lie(("member", 3), content))
        self.assertTrue(play.trust.sealed(("member", 3), name))
        letters = [(("owner", 0), ("member", 0), ("ask", name, ())), (("member", 3), ("member", 3), ("want", (0, 0)))]
        for at, letter in enumerate(letters):
            self.assertEqual(at, play.send(letter))
            self.assertEqual(letter, play.letter(at))
        play.bring(0)
        play.bring(1)
        self.assertEqual((3, 6), (play.count(), play.moment()))
        vote = play.trust.name(("vote", 0, name))
        self.assertEqual((("member", 0), ("owner", 0), ("vote", vote)), play.letter(2))

    def test_ends_that_lie_hear_nothing(self):
        play = Play(SMALL, [3], [1])
        play.pay(0, 1, 5)
        play.bring(3)
        self.assertEqual(4, play.count())
        for number in (0, 1, 2, 4, 5, 6):
            play.bring(number)
        self.assertEqual(12, play.count())
        for number in (7, 11):
            play.bring(number)
        self.assertEqual(12, play.count())

    def test_letters_to_one_that_is_gone_are_lost_this_time(self):
        play = self.play
        play.pay(0, 1, 5)
        play.fall(("member", 1), None)
        self.assertTrue(play.is_gone(("member", 1)))
        self.assertIsNone(play.member_at(1))
        play.bring(1)
        self.assertEqual((4, 3), (play.count(), play.moment()))
        play.back(("member", 1))
        self.assertFalse(play.is_gone(("member", 1)))
        play.bring(1)
        self.assertEqual(5, play.count())

    def test_falls_of_a_member_at_each_write(self):
        for writes in (0, 1, 2):
            play = Play(SMALL, [], [])
            play.pay(0, 1, 5)
            x = play.owner_at(0).asked()
            play.fall(("member", 1), writes)
            self.assertFalse(play.is_gone(("member", 1)))
            play.bring(1)
            self.assertEqual((writes == 0, 4 + (writes > 0)), (play.is_gone(("member", 1)), play.count()))
            cells = {"votes": (x,)} if writes else {}
            self.assertEqual(cells, play.cells_of(("member", 1)))
            play.bring(1)
            self.assertEqual(4 + 2 * (writes > 0), play.count())
            if writes == 0:
                play.back(("member", 1))
                self.assertEqual(cells, play.cells_of(("member", 1)))
                self.assertIsNone(play.member_at(1).disk.fuse)
                play.bring(1)
                self.assertEqual(5, play.count())

    def test_a_fuse_counts_from_the_last_fall_on(self):
        play = self.play
        play.fall(("owner", 0), 0)
        play.fall(("owner", 0), 1)
        play.pay(0, 1, 1)
        self.assertFalse(play.is_gone(("owner", 0)))
        play.fall(("owner", 0), 7)
        play.fall(("owner", 0), None)
        self.assertTrue(play.is_gone(("owner", 0)))
        play.back(("owner", 0))
        self.assertIsNone(play.owner_at(0).disk.fuse)

    def test_falls_of_an_owner_at_each_write(self):
        """Writes: asked, book, None."""
        for writes in range(4):
            play = Play(SMALL, [], [])
            owner = ("owner", 0)
            play.fall(owner, writes)
            play.pay(0, 1, 5)
            if writes == 0:
                self.assertEqual((True, 0, (), {}), (play.is_gone(owner), play.count(), play.calls(), play.cells_of(owner)))
                self.assertEqual(2, play.moment())
                play.back(owner)
                play.pay(0, 1, 5)
                self.assertEqual(4, play.calls()[0][2])
                continue
            x = play.owner_at(0).asked()
            self.assertEqual(((0, x, 2, None),), play.calls())
            for number in range(4):
                play.bring(number)
            for number in range(4, 7):
                play.bring(number)
            self.assertEqual((writes < 3, 9), (play.is_gone(owner), play.moment()))
            self.assertEqual(8 + 5 * (writes == 3), play.count())
            self.assertEqual(() if writes == 1 else ((x, 9),), play.ledger())
            self.assertEqual(((0, x, 2, 9 if writes == 3 else None),), play.calls())
            if writes < 3:
                play.back(owner)
                self.assertEqual(((0, x, 2, 10 if writes == 2 else None),), play.calls())
                self.assertEqual(x if writes == 1 else None, play.owner_at(0).asked())

    def test_a_call_that_ends_late(self):
        play = self.play
        play.pay(0, 1, 2)
        x = play.owner_at(0).asked()
        play.fall(("owner", 0), None)
        self.assertEqual(x, play.cells_of(("owner", 0))["asked"])
        self.assertEqual(((0, x, 1, None),), play.calls())
        for number in range(4):
            play.bring(number)
        play.back(("owner", 0))
        bring_all(play, 4)
        play.pay(0, 1, 1)
        y = play.owner_at(0).asked()
        self.assertEqual((0, x, 1), play.calls()[0][:3])
        self.assertEqual((0, y, play.moment(), None), play.calls()[1])
        self.assertEqual(dict(play.ledger())[x], play.calls()[0][3])

    def test_payments_of_one_event_stand_as_on_the_shelf(self):
        play = Play(((5, 5), 4, 1), [0, 1, 2], [0, 1])
        payments = [play.lie(("owner", purse), ("pay", purse, 1, 1, 5, (None, None))) for purse in (0, 1)]
        items = {}
        for payment in payments:
            some = [play.lie(("member", member), ("vote", member, payment)) for member in range(3)]
            items[payment] = (payment, tuple(sorted(some)))
        a, b = payments
        play.bring(play.send((("owner", 0), ("member", 3), ("tell", (items[b], items[a])))))
        self.assertEqual((items[b], items[a]), play.shelf_of(("member", 3)))
        self.assertEqual(((b, play.moment()), (a, play.moment())), play.ledger())

    def test_what_is_told_may_be_changed(self):
        self.play.pay(0, 1, 5)
        before = state_of(self.play)
        self.play.waiting(("member", 0)).clear()
        self.play.cells_of(("owner", 0)).clear()
        self.assertEqual(before, state_of(self.play))
        self.assertEqual([0], self.play.waiting(("member", 0)))
        for told in (self.play.ledger(), self.play.calls(), self.play.letter(0), self.play.shelf_of(("owner", 0))):
            self.assertIsInstance(told, tuple)


if __name__ == "__main__":
    unittest.main()
