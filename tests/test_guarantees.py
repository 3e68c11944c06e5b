"""[82]: what is so whatever events come, over runs drawn from told random numbers."""

import random
import unittest
from itertools import combinations

from pursesapart.court import clash_papers, judged, named
from pursesapart.lots import is_right_lot
from pursesapart.payments import is_right, past_of, payment_of
from pursesapart.runs import Play
from pursesapart.votes import is_vote
from tests.dice import Throws
from tests.helpers import sealed_chain
from tests.test_runs import bring_all, honest

BANK = ((5, 4, 3), 4, 1)
FIVE = ((6, 2), 5, 1)


def votes_in(trust, bank):
    """All votes of a run."""
    names = [("name", at) for at in range(trust.size())]
    return [name for name in names if is_vote(trust, bank, name)]


class Guarantees(unittest.TestCase):
    def thrown(self, many, bank, liars, cheats, events=200, falls=0.04):
        """So many runs."""
        for seed in range(many):
            throws = Throws(seed, bank, liars, cheats, falls)
            throws.go(events)
            yield throws

    def test_what_is_kept_of_a_run(self):
        for liars, cheats in (([], []), ([2], [1]), ([0, 3], [0])):
            for throws in self.thrown(12, BANK, liars, cheats):
                self.assertEqual(tuple(throws.ledger.items()), throws.play.ledger())
                self.assertEqual(tuple(throws.calls), throws.play.calls())

    def test_never_overdrawn(self):
        long = 0
        for bank, liars, cheats in ((BANK, [], [0, 2]), (BANK, [1], [0]), (BANK, [3], [0, 1, 2]), (FIVE, [0], [1])):
            for throws in self.thrown(15, bank, liars, cheats, events=350):
                play = throws.play
                payments = [pair[0] for pair in play.ledger()]
                long += len(payments) > 3
                self.assertTrue(is_right_lot(play.trust, bank, tuple(sorted(payments))))
                held = list(bank[0])
                for at, payment in enumerate(payments):
                    purse, _, to, amount, causes = payment_of(play.trust, bank, payment)
                    self.assertTrue(all(cause in payments[:at] for cause in causes if cause is not None))
                    held[purse] -= amount
                    held[to] += amount
                    self.assertGreaterEqual(min(held), 0)
        self.assertGreater(long, 20)

    def test_nobody_spends_for_another(self):
        for liars in ([], [1], [0, 1], [1, 2, 3], [0, 1, 2, 3]):
            for throws in self.thrown(10, BANK, liars, [2]):
                for purse in (0, 1):
                    self.check_calls(throws.play, purse)

    def check_calls(self, play, purse):
        """What of the purse is in the ledger are its calls, each within its time."""
        ledger = dict(play.ledger())
        calls = [call for call in play.calls() if call[0] == purse]
        moments = {call[1]: call[2:] for call in calls}
        for payment, moment in ledger.items():
            if payment_of(play.trust, play.bank, payment)[0] == purse:
                begin, end = moments[payment]
                self.assertLess(begin, moment)
                self.assertTrue(end is None or moment <= end)
        self.assertTrue(all(call[3] is not None for call in calls[:-1]))
        numbers = [payment_of(play.trust, play.bank, call[1])[1] for call in calls]
        self.assertEqual(list(range(1, len(calls) + 1)), numbers)
        if play.owner_at(purse) is not None:
            self.assertGreaterEqual(play.owner_at(purse).has(), 0)
        self.assertTrue(all(is_right(play.trust, play.bank, call[1]) for call in calls))

    def test_named(self):
        clashes = 0
        for liars, cheats in (([3], [0]), ([0, 1], [0, 1]), ([0, 1, 2], [0, 2]), ([0, 1, 2, 3], [0, 1, 2])):
            for throws in self.thrown(30, BANK, liars, cheats, events=200, falls=0.02):
                play = throws.play
                told = [pair[0] for pair in named(play.trust, BANK, votes_in(play.trust, BANK))]
                self.assertTrue(set(told) <= set(liars))
                clashes += self.check_clashes(play)
        self.assertGreater(clashes, 5)

    def check_clashes(self, play):
        """Each two payments of the ledger that clash: certificates on shelves convict liars, enough of them."""
        certificates = {}
        for end in honest(play):
            for item in play.shelf_of(end):
                certificates.setdefault(item[0], item)
        payments = sorted(pair[0] for pair in play.ledger())
        found = 0
        for one, other in combinations(payments, 2):
            if payment_of(play.trust, BANK, one)[:2] == payment_of(play.trust, BANK, other)[:2]:
                told = [pair[0] for pair in clash_papers(play.trust, BANK, certificates[one], certificates[other])]
                self.assertGreaterEqual(len(told), 2)
                self.assertTrue(set(told) <= set(play.liars))
                found += 1
        books = [list(play.shelf_of(end)) for end in honest(play)]
        self.assertEqual("clash" if found else "lot", judged(play.trust, BANK, books)[0])
        return found

    def test_nobody_waits(self):
        opened = 0
        for bank, liars, cheats in ((BANK, [], [1]), (BANK, [2], [0]), (FIVE, [4], [])):
            for throws in self.thrown(15, bank, liars, cheats):
                play = throws.play
                for end in honest(play):
                    if end[0] == "member" and play.is_gone(end):
                        play.back(end)
                    if not play.is_gone(end):
                        play.fall(end, 10 ** 9)
                for purse in [end[1] for end in honest(play) if end[0] == "owner" and not play.is_gone(end)]:
                    opened += self.check_open(play, purse)
        self.assertGreater(opened, 10)

    def check_open(self, play, purse):
        """The open payment is booked by the letters of again() to need members, and then all have all."""
        opened = play.owner_at(purse).asked() is not None
        owner = play.owner_at(purse)
        chosen = [member for member in range(play.bank[1]) if member not in play.liars][-(play.bank[1] - play.bank[2]):]
        first = play.count()
        play.again(purse)
        for number in range(first, play.count()):
            if play.letter(number)[1][1] in chosen:
                answers = play.count()
                play.bring(number)
                for answer in range(answers, play.count()):
                    play.bring(answer)
        self.assertIsNone(owner.asked())
        first = play.count()
        play.news(purse)
        for number in range(first, play.count()):
            play.bring(number)
        booked = {item[0] for item in owner.shelf()}
        for end in honest(play):
            if not play.is_gone(end):
                self.assertTrue(booked <= {item[0] for item in play.shelf_of(end)}, end)
        return opened

    def test_quiet_means_done(self):
        done = 0
        for bank, liars, cheats in ((BANK, [], []), (BANK, [0], [2]), (FIVE, [2], [])):
            for throws in self.thrown(12, bank, liars, cheats, events=60, falls=0):
                play = throws.play
                bring_all(play)
                wanted = set()
                for _, payment, _, end in play.calls():
                    self.assertIsNotNone(end)
                    wanted |= set(past_of(play.trust, bank, payment))
                    done += 1
                for end in honest(play):
                    self.assertTrue(wanted <= {item[0] for item in play.shelf_of(end)})
        self.assertGreater(done, 30)

    def test_nothing_hangs_on_the_sequence(self):
        for seed in range(12):
            dice = random.Random(seed)
            first = [(purse, dice.randrange(3), dice.randint(1, 3)) for purse in range(3) if dice.random() < 0.8]
            held = set()
            for run in range(3):
                play = Play(BANK, [], [])
                for purse, to, amount in dice.sample(first, len(first)):
                    play.pay(purse, to, amount)
                missing = set(range(play.count()))
                met = play.count()
                while missing:
                    number = dice.choice(sorted(missing))
                    play.bring(number)
                    missing.discard(number)
                    if dice.random() < 0.2 * run:
                        play.bring(dice.randrange(play.count()))
                    missing |= set(range(met, play.count()))
                    met = play.count()
                held.add(tuple(play.owner_at(purse).has() for purse in range(3)))
            self.assertEqual(1, len(held))

    def test_a_purse_of_a_lying_owner_may_be_locked_and_no_other(self):
        play = Play(BANK, [], [0])
        names = [play.lie(("owner", 0), ("pay", 0, 1, 1, amount, (None, None, None))) for amount in (5, 4)]
        for member in range(4):
            play.bring(play.send((("owner", 0), ("member", member), ("ask", names[member % 2], ()))))
        for purse in (1, 2):
            play.pay(purse, 0, 1)
        bring_all(play)
        self.assertEqual({1, 2}, {payment_of(play.trust, BANK, pair[0])[0] for pair in play.ledger()})
        for member in range(4):
            self.assertEqual(1, len([one for one in play.member_at(member).voted() if one in names]))

    def test_long_runs(self):
        """A run of 3,000 letters and shelves of hundreds of payments."""
        play = Play(((5, 5), 4, 1), [], [])
        first = 0
        purse = 0
        while play.count() < 3000:
            play.pay(purse, 1 - purse, 1)
            while first < play.count():
                play.bring(first)
                first += 1
            purse = 1 - purse
        self.assertGreater(len(play.ledger()), 100)
        self.assertTrue(all(call[3] is not None for call in play.calls()))

    def test_long_shelves(self):
        play = Play(((5, 5), 4, 1), [0, 1, 2], [0])
        names = sealed_chain(play.trust, play.bank, 400)
        items = []
        for name in names:
            items.append((name, tuple(sorted(play.lie(("member", member), ("vote", member, name)) for member in range(3)))))
        number = play.send((("owner", 0), ("member", 3), ("tell", tuple(items))))
        play.bring(number)
        self.assertEqual(tuple(names), tuple(pair[0] for pair in play.ledger()))


if __name__ == "__main__":
    unittest.main()
