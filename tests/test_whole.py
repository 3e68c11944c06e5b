"""All parts together: the HEART lines once more over longer runs, drawn from told random numbers."""

import random
import unittest

from pursesapart.books import book_of, is_part_of, joined_books, lacking
from pursesapart.court import judged, most_overdrawn, named, owners_named, sums_told
from pursesapart.disks import Disk
from pursesapart.drills import Drill
from pursesapart.folds import forgettable, holder_of, kept_of, right_above
from pursesapart.lots import (content_for, is_held, is_right_lot, least_held, lot_of, most_held, overdrawing,
                              purses_along, totals)
from pursesapart.members import Member
from pursesapart.mostly import lock_of, most_paid, paid_out, rest_of
from pursesapart.payments import is_right, past_of, payment_of
from pursesapart.plans import booked_by, carry_out, is_plan
from pursesapart.runs import Play
from pursesapart.shared import is_signed, owner_of, signed_by
from pursesapart.sharing import Sharing
from pursesapart.sure import is_may, is_sure, liars_in, may_be_booked, surely_booked
from pursesapart.texts import read_steps, read_web, steps_text, web_text
from pursesapart.trust import Trust
from pursesapart.votes import is_vote
from tests.dice import Throws
from tests.plain_drill import PlainDrill, some_act
from tests.plain_shared import some_charter, subsets

BANK = ((6, 4, 3), 4, 1)
RUNS = [(BANK, [1], [0]), (BANK, [], [0, 2]), (((9, 5), 7, 2), [0, 3], [1]), (((4, 4, 4, 4), 5, 1), [2], [1, 3])]


def votes_in(trust, bank):
    """All votes of a run."""
    names = [("name", at) for at in range(trust.size())]
    return [name for name in names if is_vote(trust, bank, name)]


def pays_in(trust, bank):
    """All right payments of a run, with their pasts."""
    names = [("name", at) for at in range(trust.size())]
    return [name for name in names if is_right(trust, bank, name)]


class Whole(unittest.TestCase):
    def runs(self, many, events):
        """Runs with at most lies liars, in which some owners lie, and ends fall."""
        for seed in range(many):
            bank, liars, cheats = RUNS[seed % len(RUNS)]
            throws = Throws(1000 + seed, bank, liars, cheats, 0.03)
            throws.go(events)
            yield throws.play

    def test_one_common_lot(self):
        """Shelves of all ends are right lots that join; no sequence overdraws, and purses hold what papers tell."""
        great = 0
        for play in self.runs(24, 400):
            trust, bank = play.trust, play.bank
            ends = [end for end in Throws(0, bank, list(play.liars), list(play.cheats)).ends]
            books = [list(play.shelf_of(end)) for end in ends]
            told = judged(trust, bank, books)
            self.assertEqual(("lot", tuple(sorted(pair[0] for pair in play.ledger()))), told)
            lot = told[1]
            self.assertTrue(is_right_lot(trust, bank, lot))
            self.assertEqual(lot, lot_of(trust, bank, list(lot)))
            self.assertIsNone(overdrawing(trust, bank, lot))
            self.assertEqual(totals(trust, bank, lot), sums_told(trust, bank, books))
            self.assertEqual((0,) * len(bank[0]), most_overdrawn(trust, bank, books))
            along = purses_along(trust, bank, lot, [pair[0] for pair in play.ledger()])
            for purses in subsets(range(len(bank[0]))):
                most, least = most_held(trust, bank, lot, purses), least_held(trust, bank, lot, purses)
                self.assertTrue(is_held(trust, bank, lot, purses, most) and is_held(trust, bank, lot, purses, least))
                for held in along:
                    self.assertTrue(least[1] <= sum(held[purse] for purse in purses) <= most[1])
            for purse, _ in owners_named(trust, bank, books):
                self.assertIn(purse, play.cheats)
            great += len(lot) > 4
        self.assertGreater(great, 8)

    def test_books_of_shelves(self):
        for play in self.runs(12, 300):
            trust, bank = play.trust, play.bank
            ends = Throws(0, bank, list(play.liars), list(play.cheats)).ends
            books = [book_of(trust, bank, play.shelf_of(end)) for end in ends]
            common = books[0]
            for book in books[1:]:
                common = joined_books(common, book)
            self.assertEqual(tuple(sorted(pair[0] for pair in play.ledger())), common.booked())
            self.assertEqual(sum(bank[0]), sum(common.purses()))
            for book in books:
                self.assertTrue(is_part_of(book, common))
                other = book.copy()
                for item in lacking(common, book.row()):
                    other.take(item)
                self.assertEqual(common, other)

    def test_what_votes_tell(self):
        """All votes of a run, and some of them: nobody but liars is named, what is booked is sure or may be booked."""
        found = {}
        for at, play in enumerate(self.runs(24, 350)):
            trust, bank = play.trust, play.bank
            votes = votes_in(trust, bank)
            self.assertLessEqual(set(liars_in(trust, bank, votes)), set(play.liars))
            self.assertEqual(liars_in(trust, bank, votes), tuple(pair[0] for pair in named(trust, bank, votes)))
            payments = [pair[0] for pair in play.ledger()]
            dice = random.Random(at)
            for known in (votes, dice.sample(votes, len(votes) * 2 // 3), dice.sample(votes, len(votes) // 3)):
                told = may_be_booked(trust, bank, known, payments)
                self.assertEqual("can", told[0])
                self.assertTrue(is_may(trust, bank, known, payments, told))
                self.assertTrue(is_may(trust, bank, known, payments, ("can", play.liars)))
                for payment in pays_in(trust, bank):
                    told = surely_booked(trust, bank, known, payment)
                    self.assertTrue(is_sure(trust, bank, known, payment, told))
                    found[told[0]] = found.get(told[0], 0) + 1
                    if told[0] == "sure":
                        self.assertIn(payment, payments)
                    if payment not in payments:
                        may = may_be_booked(trust, bank, known, [payment])
                        found[may[0]] = found.get(may[0], 0) + 1
                        self.assertTrue(is_may(trust, bank, known, [payment], may))
        self.assertGreater(min(found.get(word, 0) for word in ("votes", "sure", "open", "can", "never")), 3, found)

    def test_what_is_forgotten_in_a_run(self):
        """From the part of the ledger that nothing holds on, each payment of the run is right exactly if right above."""
        found = 0
        for seed in range(30):
            play = Play(((3, 3), 4, 1), [], [0] if seed % 2 else [])
            trust, bank, dice = play.trust, play.bank, random.Random(seed)
            lot = ()
            for _ in range(9):
                held = totals(trust, bank, lot)
                purse = dice.choice([at for at in (0, 1) if held[at]])
                amount = held[purse] if dice.random() < 0.6 else dice.randint(1, held[purse])
                lot += (trust.name(content_for(trust, bank, lot, purse, 1 - purse, amount)),)
            early = lot[:dice.randint(3, 8)]
            part = forgettable(trust, bank, early)
            kept = kept_of(trust, bank, early, part)
            found += len(part) > 0
            for payment in lot:
                self.assertEqual(payment not in part, right_above(trust, bank, kept, payment))
            self.assertIsNone(holder_of(trust, bank, lot, part))
            self.assertLessEqual(len(part), len(forgettable(trust, bank, lot)))
        self.assertGreater(found, 8)

    def test_texts_of_runs(self):
        for play in self.runs(8, 250):
            trust, bank = play.trust, play.bank
            web = pays_in(trust, bank)
            text = web_text(trust, bank, web)
            self.assertEqual((bank, web), read_web(trust, text))
            steps = tuple((trust.content(vote)[1], trust.content(vote)[2]) for vote in votes_in(trust, bank)
                          if trust.content(vote)[2] in web)
            lines = steps_text(trust, bank, web, steps)
            self.assertEqual(steps, read_steps(trust, bank, web, lines))
            other = Trust()
            again = read_web(other, text)[1]
            self.assertEqual(lines, steps_text(other, bank, again, read_steps(other, bank, again, lines)))
            self.assertEqual([payment_of(trust, bank, name)[:4] for name in web],
                             [payment_of(other, bank, name)[:4] for name in again])

    def test_votes_of_runs_are_plans(self):
        """The votes of a run, in the sequence of their names, make a plan; what it books goes on from there."""
        found = {}
        for play in self.runs(16, 300):
            trust, bank = play.trust, play.bank
            right = pays_in(trust, bank)
            plan = tuple((trust.content(vote)[1], trust.content(vote)[2]) for vote in votes_in(trust, bank)
                         if trust.content(vote)[2] in right)
            self.assertTrue(is_plan(trust, bank, play.liars, plan))
            booked = booked_by(trust, bank, play.liars, plan)
            self.assertLessEqual({pair[0] for pair in play.ledger()}, set(booked))
            self.assertEqual("lot", judged(trust, bank, [carry_out(trust, bank, play.liars, plan)])[0])
            for payment in right:
                told = rest_of(trust, bank, play.liars, plan, [payment])
                found[told[0]] = found.get(told[0], 0) + 1
                if told[0] == "plan":
                    self.assertTrue(is_plan(trust, bank, play.liars, plan + told[1]))
                    behind = booked_by(trust, bank, play.liars, plan + told[1])
                    self.assertLessEqual(set(past_of(trust, bank, payment)), set(behind))
            for purse in range(len(bank[0])):
                if lock_of(trust, bank, play.liars, plan, purse)[0] == "locked":
                    self.assertIn(purse, play.cheats)
            self.check_paid(play, list(booked))
        self.assertGreaterEqual(set(found), {"plan", "against"})

    def check_paid(self, play, booked):
        trust, bank = play.trust, play.bank
        owners = play.cheats
        most = most_paid(trust, bank, play.liars, booked, owners)
        held = totals(trust, bank, tuple(booked))
        to = [purse for purse in range(len(bank[0])) if purse not in owners][0]
        out = sum(payment_of(trust, bank, name)[3] for name in booked
                  if payment_of(trust, bank, name)[0] in owners and payment_of(trust, bank, name)[2] not in owners)
        self.assertEqual(most - out, sum(held[purse] for purse in owners))
        made = paid_out(trust, bank, booked, owners, to)
        self.assertEqual(most - out, sum(payment_of(trust, bank, name)[3] for name in made))

    def test_drills_are_runs_of_members(self):
        """What members of a drill do, members with disks, seals and certificates do, and so do plans."""
        votes = 0
        for seed in range(150):
            dice = random.Random(seed)
            bank = dice.choice([((5, 0), 4, 1), ((3, 2, 1), 4, 1), ((6, 6), 7, 2), ((5, 0), 3, 0)])
            liars = tuple(sorted(dice.sample(range(bank[1]), bank[2])))
            both = Both(bank, liars)
            words = PlainDrill(bank, liars, None)
            for _ in range(45):
                act = some_act(dice, words, 0.15, 0.2)
                if act is not None and act[0] in ("pay", "forge", "ask"):
                    words.do(act)
                    both.do(act)
                    self.assertEqual(words.votes(), both.drill.votes())
                    self.assertEqual(words.votes(), both.voters())
            self.assertTrue(is_plan(both.trust, bank, liars, tuple(both.plan)))
            certified = tuple(both.names[at] for at in both.drill.certified())
            self.assertEqual(tuple(sorted(certified)), booked_by(both.trust, bank, liars, tuple(both.plan)))
            votes += len(both.plan)
        self.assertGreater(votes, 500)

    def test_shared_purses_with_seals(self):
        """What Sharing tells to be signed is signed by the seals in a Trust, where proposals are payments."""
        signed = 0
        for seed in range(80):
            dice = random.Random(seed)
            many = dice.randint(1, 6)
            charter, bank = some_charter(dice, many), ((99, 0), 4, 1)
            false = tuple(sorted(dice.sample(range(many), dice.randrange(many + 1))))
            sharing, trust, names = Sharing(bank, charter, false), Trust(), []
            for _ in range(25):
                act = dice.choice([("propose", dice.randrange(many)), ("sign", dice.randrange(many), dice.randrange(4)),
                                   ("vote", dice.randrange(4), dice.randrange(4))])
                if not sharing.is_act(act) or act[0] == "propose" and len(names) == 4:
                    continue
                sharing.act(act)
                if act[0] == "propose":
                    names.append(trust.name(("pay", 0, 1, 1, len(names) + 1, (None, None))))
                if act[0] != "vote":
                    trust.seal(owner_of(bank, 0, act[1]), names[-1 if act[0] == "propose" else act[2]])
            self.assertEqual(sharing.signers(), tuple(signed_by(trust, bank, charter, name) for name in names))
            told = tuple(at for at, name in enumerate(names) if is_signed(trust, bank, charter, name))
            self.assertEqual(sharing.signed(), told)
            signed += len(told)
        self.assertGreater(signed, 30)


class Both:
    """A drill, and the same payments and asks with a Trust, disks and certificates."""

    def __init__(self, bank, liars):
        self.bank = bank
        self.drill = Drill(bank, liars, None)
        self.trust = Trust()
        self.names = []
        self.plan = []
        self.votes = {}
        self.members = [Member(self.trust, bank, number, Disk({}, None)) for number in range(bank[1])]

    def do(self, act):
        """Does the act of the drill here and there."""
        certified = self.drill.certified()
        self.drill.act(act)
        if act[0] == "ask":
            self.ask(act[1], act[2], certified)
            return
        purse, number, to, amount, causes = act[1:]
        named_causes = tuple(None if cause is None else self.names[cause] for cause in causes)
        name = self.trust.name(("pay", purse, number, to, amount, named_causes))
        if act[0] == "pay":
            self.trust.seal(("owner", purse), name)
        self.names.append(name)
        self.votes[name] = {}

    def ask(self, number, payment, certified):
        """Asks the member with the certificates of what is certified of the past; a liar just votes."""
        name = self.names[payment]
        purse = payment_of(self.trust, self.bank, name)[0]
        past = past_of(self.trust, self.bank, name)[:-1]
        items = []
        for at in certified:
            if self.names[at] in past:
                some = sorted(self.votes[self.names[at]].values())[:self.bank[1] - self.bank[2]]
                items.append((self.names[at], tuple(some)))
        vote = None
        if number in self.drill.liars:
            vote = self.trust.name(("vote", number, name))
            self.trust.seal(("member", number), vote)
        else:
            ends = ("owner", purse), ("member", number)
            answers = self.members[number].hear(ends + (("ask", name, tuple(items)),))
            vote = answers[0][2][1] if answers else None
        if vote is not None and number not in self.votes[name]:
            self.votes[name][number] = vote
            if is_right(self.trust, self.bank, name):
                self.plan.append((number, name))

    def voters(self):
        """The members that voted for each payment."""
        return tuple(tuple(sorted(self.votes[name])) for name in self.names)


if __name__ == "__main__":
    unittest.main()
