"""[112]: what comes of the payments with one number of a shared purse."""

import random
import unittest

from pursesapart.errors import BadAct, BadAgreed, BadBank, BadCharter, BadLiars, BadOwners
from pursesapart.shared import counting_charter, payers, torn_split
from pursesapart.sharing import Sharing, locking_run
from pursesapart.trust import Trust
from tests.bends import bends
from tests.helpers import BAD_BANKS, LONG, SMALL, check_errors, odd_values
from tests.plain_shared import PlainSharing, all_charters, plain_has_lot, some_charter, subsets
from tests.test_shared import BAD_CHARTERS, CHARTER, TWO_OF_THREE

PAIR = ((5, 0), 2, 0)
ONE = ((5,), 1, 0)
THIRTEEN = ((5, 0), 13, 4)
BAD_LIARS = [None, 0, True, [], [1], (4,), (-1,), (True,), (1, 0), (1, 1), (0, 1), ("0",), (None,), {}, "", LONG, Trust()]
BAD_AGREED = [None, 0, 1, "True", (), [], (True,), {}, LONG, Trust()]
BAD_FALSE = [None, 0, True, [], [1], (3,), (-1,), (True,), (False,), (1, 0), (1, 1), ("0",), (None,), {}, "", LONG, Trust()]


def done(sharing, acts):
    """The sharing behind these acts."""
    for act in acts:
        sharing.act(act)
    return sharing


class Sharings(unittest.TestCase):
    def test_acts(self):
        sharing = Sharing(SMALL, CHARTER)
        self.assertEqual(((), (), (), (), ()), self.told(sharing))
        self.assertIsNone(sharing.act(("propose", 1)))
        self.assertEqual(((1,), ((1,),), ((),), (), ()), self.told(sharing))
        done(sharing, [("sign", 2, 0), ("propose", 0), ("vote", 3, 0), ("vote", 0, 0)])
        self.assertEqual(((1, 0), ((1, 2), (0,)), ((0, 3), ()), (0,), ()), self.told(sharing))
        self.assertEqual([("vote", 1, 0)], sharing.way_on())
        self.assertFalse(sharing.locked())
        sharing.act(("vote", 1, 0))
        self.assertEqual(((1, 0), ((1, 2), (0,)), ((0, 1, 3), ()), (0,), (0,)), self.told(sharing))
        self.assertEqual([], sharing.way_on())

    def told(self, sharing):
        return sharing.made(), sharing.signers(), sharing.voters(), sharing.signed(), sharing.booked()

    def test_who_keeps_to_its_rules(self):
        sharing = done(Sharing(SMALL, CHARTER), [("propose", 0)])
        for act in [("propose", 0), ("propose", 2), ("sign", 0, 0), ("sign", 2, 1), ("vote", 0, 0)]:
            self.assertIs(False, sharing.is_act(act))
            with self.assertRaises(BadAct):
                sharing.act(act)
        done(sharing, [("propose", 1), ("sign", 2, 0), ("vote", 0, 0)])
        for act in [("sign", 2, 1), ("sign", 1, 0), ("vote", 0, 0), ("vote", 0, 1), ("vote", 1, 1)]:
            self.assertIs(False, sharing.is_act(act))
        self.assertTrue(sharing.is_act(("vote", 3, 0)))

    def test_who_lies(self):
        sharing = Sharing(SMALL, CHARTER, (1, 2), (3,))
        done(sharing, [("propose", 1), ("propose", 1), ("sign", 2, 0), ("sign", 2, 1), ("vote", 3, 0), ("vote", 3, 1)])
        for act in [("propose", 2), ("sign", 1, 0), ("sign", 2, 0), ("vote", 3, 1)]:
            self.assertFalse(sharing.is_act(act))
        self.assertTrue(sharing.is_act(("propose", 1)))
        self.assertTrue(sharing.is_act(("propose", 0)))
        done(sharing, [("propose", 1), ("vote", 3, 2), ("vote", 0, 1)])
        self.assertEqual(((1, 1, 1), (0, 1)), (sharing.made(), sharing.signed()))
        self.assertFalse(sharing.is_act(("vote", 1, 2)))

    def test_agreed(self):
        sharing = Sharing(SMALL, CHARTER, (1,), (), True)
        done(sharing, [("propose", 1), ("propose", 1)])
        self.assertFalse(sharing.is_act(("propose", 0)))
        self.assertFalse(sharing.is_act(("sign", 0, 1)))
        self.assertTrue(sharing.is_act(("sign", 0, 0)))
        self.assertTrue(Sharing(SMALL, CHARTER, (), (), True).is_act(("propose", 0)))
        self.assertTrue(done(Sharing(SMALL, CHARTER, (1,)), [("propose", 1)] * 2).is_act(("sign", 0, 1)))

    def test_agreed_owners_sign_no_second_proposal(self):
        """Only the second proposal could be signed: the owners that agreed do not, and those that did not do."""
        for agreed in (True, False):
            sharing = done(Sharing(SMALL, (3, (0, 1), ((1, 2),)), (0, 1), (), agreed), [("propose", 0), ("propose", 1)])
            self.assertIs(agreed, sharing.locked())

    def test_thirty_proposals(self):
        sharing = Sharing(SMALL, CHARTER, (1,))
        done(sharing, [("propose", 1)] * 30)
        for owner in (0, 1):
            self.assertFalse(sharing.is_act(("propose", owner)))
        self.assertEqual(30, len(sharing.made()))
        self.assertTrue(sharing.is_act(("sign", 0, 29)))
        self.assertEqual(4, len(sharing.way_on()))

    def test_odd_values_are_no_acts(self):
        sharing = done(Sharing(SMALL, CHARTER, (1,), (1,)), [("propose", 0), ("propose", 1)])
        values = odd_values() + [("propose",), ("propose", True), ("propose", 1, 0), ("sign", 2, True), ("sign", 2, False),
                                 ("sign", 2, None), ("sign", 2, -1), ("sign", 2, 2), ("sign", "2", 0), ("sign", [2], 0),
                                 ("vote", 1, True), ("vote", True, 0), ("vote", 4, 0), ("vote", -1, 0), ("vote", 1, [0]),
                                 ["propose", 1], ["vote", 1, 0], ("vote", 1), ("vote", 1, 0, 0), ("sign", 3, 0), "propose"]
        for value in values:
            with self.subTest(value=value):
                self.assertIs(False, sharing.is_act(value))
                with self.assertRaises(BadAct):
                    sharing.act(value)
        for good in (("vote", 1, 0), ("sign", 2, 0), ("propose", 1)):
            self.assertTrue(sharing.is_act(good))
            for value in bends(good, [None, True, "vote", 9, -1]):
                if sharing.is_act(value):
                    self.assertEqual((tuple, good[0]), (type(value), value[0]))

    def test_runs_against_the_words(self):
        """Each act in each state, of those that lie and of those that keep to their rules; way_on behind all acts."""
        found = {}
        for seed in range(160):
            dice = random.Random(seed)
            many = dice.randint(1, 4)
            charter = some_charter(dice, many)
            bank = dice.choice([SMALL, PAIR, ONE, ((5, 0), 4, 1)])
            false = dice.choice(subsets(range(many)))
            liars = dice.choice(subsets(range(bank[1])))[:bank[2]]
            agreed = dice.random() < 0.4
            sharing = Sharing(bank, charter, false, liars, agreed)
            words = PlainSharing(bank, charter, false, liars, agreed, 3)
            state = ((), (), ())
            for _ in range(dice.randint(4, 20)):
                state = self.check_state(dice, sharing, words, state, found)
                if state is None:
                    break
        self.assertGreater(min(found.values()), 60, found)
        self.assertEqual({"propose", "sign", "vote", "locked", "booked", "open"}, set(found))

    def check_state(self, dice, sharing, words, state, found):
        """Holds all that is told against the words, and does an act: the state behind it, None if there is none."""
        acts = [act for act in words.acts(state) if words.can(state, act)]
        every = words.acts(state) + [("propose", len(state[0])), ("sign", 0, len(state[0])), ("vote", 9, 0)]
        for act in every:
            if act[0] != "propose" or len(state[0]) < 3:
                self.assertEqual(act in acts, sharing.is_act(act), (state, act))
        made, seals, votes = state
        self.assertEqual(made, sharing.made())
        self.assertEqual(tuple(tuple(sorted(row)) for row in seals), sharing.signers())
        self.assertEqual(tuple(tuple(sorted(row)) for row in votes), sharing.voters())
        self.assertEqual((words.signed(state), words.booked(state)), (sharing.signed(), sharing.booked()))
        self.assertLessEqual(len(sharing.booked()), 1)
        if len(made) < 3:
            word = self.check_way(sharing, words, state)
            found[word] = found.get(word, 0) + 1
        if not acts:
            return None
        act = dice.choice(acts)
        sharing.act(act)
        found[act[0]] = found.get(act[0], 0) + 1
        return words.do(state, act)

    def check_way(self, sharing, words, state):
        """way_on and locked change nothing, and are right."""
        way = sharing.way_on()
        self.assertEqual(words.goes_on(state), way is not None)
        self.assertIs(way is None, sharing.locked())
        if way is None:
            return "locked"
        if words.booked(state):
            self.assertEqual([], way)
            return "booked"
        self.check_list(words, state, way)
        kept = list(way)
        way.clear()
        self.assertEqual(kept, sharing.way_on())
        return "open"

    def check_list(self, words, state, way):
        self.assertIs(list, type(way))
        for act in way:
            self.assertTrue(words.is_true(act) and words.can(state, act))
            state = words.do(state, act)
        self.assertEqual(1, len(words.booked(state)))

    def test_safe(self):
        """Whatever all owners and as many members as may lie do, one proposal at most is booked."""
        for seed in range(60):
            dice = random.Random(seed)
            bank = dice.choice([SMALL, THIRTEEN, ((5, 0), 7, 2), ((5, 0), 5, 1)])
            liars = tuple(sorted(dice.sample(range(bank[1]), bank[2])))
            sharing = Sharing(bank, CHARTER, (0, 1, 2), liars)
            for _ in range(3):
                sharing.act(("propose", dice.choice((0, 1))))
            acts = [("sign", owner, at) for owner in range(3) for at in range(3)]
            acts += [("vote", member, at) for member in range(bank[1]) for at in range(3)] * 2
            for act in dice.sample(acts, len(acts)):
                if sharing.is_act(act):
                    sharing.act(act)
            self.assertLessEqual(len(sharing.booked()), 1)

    def test_way_on_with_many_proposals_and_members(self):
        charter = counting_charter(6, (0, 1, 2), 5)
        sharing = Sharing(THIRTEEN, charter, (0,), (9, 10, 11, 12))
        done(sharing, [("propose", 0)] * 30)
        done(sharing, [("vote", member, at) for at in range(30) for member in (9, 10, 11, 12)])
        way = sharing.way_on()
        self.assertEqual(4 + 5, len(way))
        self.assertEqual(1, len(done(sharing, way).booked()))
        sharing = Sharing(THIRTEEN, charter, (0,), (9, 10, 11, 12))
        done(sharing, [("propose", 0)] * 30 + [("sign", owner, owner) for owner in (1, 2, 3)])
        self.assertTrue(sharing.locked())

    def test_bound_of_proposals_does_not_lock(self):
        """Nobody can propose any more, but what was proposed can be signed."""
        sharing = done(Sharing(PAIR, (2, (0, 1), ((1,),)), (0,)), [("propose", 0)] * 30)
        self.assertEqual([("sign", 1, 0), ("vote", 0, 0), ("vote", 1, 0)], sharing.way_on())

    def test_locking_runs_against_all_runs(self):
        """For all charters of up to three owners, all who are false, agreed or not: over all runs of three proposals."""
        counts = {}
        for many in (1, 2, 3):
            for charter in all_charters(many):
                for false in subsets(range(many)):
                    for agreed in (False, True):
                        for bank in (PAIR, ONE) + (SMALL,) * (many < 3):
                            told = self.check_locking(bank, charter, false, agreed)
                            expected = PlainSharing(bank, charter, false, (), agreed, 3).locked_states()
                            self.assertEqual(expected, told, (bank, charter, false, agreed))
                            counts[told] = counts.get(told, 0) + 1
        self.assertGreater(min(counts.values()), 1000, counts)

    def check_locking(self, bank, charter, false, agreed):
        """Whether there is a locking run, which is done."""
        run = locking_run(bank, charter, false, agreed)
        if run is None:
            return False
        self.assertIs(tuple, type(run))
        sharing = Sharing(bank, charter, false, (), agreed)
        self.assertTrue(done(sharing, run).locked(), run)
        return True

    def test_heart_of_locking(self):
        """EXACTLY IF: nobody false; agreed; a false proposer; over greater charters too."""
        dice = random.Random(112)
        charters = [charter for many in (1, 2, 3) for charter in all_charters(many)]
        charters += dice.sample(all_charters(4), 300) + [some_charter(dice, many) for many in (5, 6) for _ in range(40)]
        counts = {}
        for charter in charters:
            for bank in (SMALL, PAIR):
                told = self.check_locking(bank, charter, (), False)
                self.assertEqual(torn_split(charter) is not None, told)
                self.assertIsNone(locking_run(bank, charter, (), True))
            for false in dice.sample(subsets(range(charter[0]))[1:], min(6, 2 ** charter[0] - 1)):
                told = self.check_locking(SMALL, charter, false, False)
                self.check_locking(SMALL, charter, false, True)
                if set(false) & set(charter[1]):
                    self.assertEqual(not self.is_safe(charter, false), told, (charter, false))
                    counts[told] = counts.get(told, 0) + 1
        self.assertGreater(min(counts.values()), 40, counts)

    def is_safe(self, charter, false):
        """Some true owner may propose, and one is in each lot and, with any one proposer, has all of a lot."""
        true = [owner for owner in range(charter[0]) if owner not in false]
        deciding = [owner for owner in true if all(owner in lot for lot in charter[2])
                    and all(plain_has_lot(charter, {owner, other}) for other in charter[1])]
        return bool(deciding) and bool(set(true) & set(charter[1]))

    def test_whichever_members_lie(self):
        """Where there is no locking run, all runs with a member that lies end open; two of four owners each."""
        for many in (1, 2):
            for charter in all_charters(many):
                for false in subsets(range(many)):
                    for agreed in (False, True):
                        if locking_run(SMALL, charter, false, agreed) is None:
                            words = PlainSharing(SMALL, charter, false, (3,), agreed, 2)
                            self.assertFalse(self.any_locked(words), (charter, false, agreed))

    def any_locked(self, words):
        """Over drawn runs, the liar ahead of the others, which is where it can do most."""
        for seed in range(12):
            dice = random.Random(seed)
            sharing = Sharing(words.bank, words.charter, words.false, words.liars, words.agreed)
            state = ((), (), ())
            for _ in range(16):
                acts = [act for act in words.acts(state) if words.can(state, act)]
                lying = [act for act in acts if act[0] == "vote" and act[1] == 3] or acts
                if not acts:
                    break
                act = dice.choice(dice.choice([acts, lying]))
                sharing.act(act)
                state = words.do(state, act)
                if sharing.locked():
                    return True
        return False

    def test_owners_that_have_all_of_a_payer_or_of_none(self):
        """Agreed, and false owners with a payer and a proposer of their own: they sign a second one."""
        for charter in all_charters(3):
            for false in subsets(range(3)):
                true = [owner for owner in range(3) if owner not in false]
                can = any(set(one) <= set(true) for one in payers(charter))
                expected = not can or any(set(one) <= set(false) for one in payers(charter))
                self.assertEqual(expected, locking_run(SMALL, charter, false, True) is not None)

    def test_examples(self):
        self.assertIsNone(locking_run(SMALL, CHARTER))
        run = locking_run(SMALL, (3, (0, 1, 2), TWO_OF_THREE))
        self.assertTrue(done(Sharing(SMALL, (3, (0, 1, 2), TWO_OF_THREE)), run).locked())
        self.assertIsNone(locking_run(SMALL, (3, (0, 1, 2), TWO_OF_THREE), agreed=True))
        self.assertEqual((), locking_run(SMALL, (2, (0,), ((0, 1),)), (1,)))
        self.assertEqual((), locking_run(SMALL, (2, (0,), ((1,),)), (0,)))
        two = (2, (0, 1), ((0,), (1,)))
        self.assertIsNotNone(locking_run(SMALL, two))
        self.assertIsNone(locking_run(ONE, two))
        self.assertEqual((), locking_run(ONE, two, (0, 1), True))

    def test_errors(self):
        bank = ("bank", SMALL, BadBank, BAD_BANKS)
        charter = ("charter", CHARTER, BadCharter, BAD_CHARTERS)
        false = ("false", (0, 2), BadOwners, BAD_FALSE)
        agreed = ("agreed", True, BadAgreed, BAD_AGREED)
        check_errors(self, Sharing, [bank, charter, false, ("liars", (3,), BadLiars, BAD_LIARS), agreed])
        check_errors(self, locking_run, [bank, charter, false, agreed])
        for rest in ([], [(1,)], [(0, 1, 2), ()], [(), (2,), False]):
            Sharing(SMALL, CHARTER, *rest)
        with self.assertRaises(BadLiars):
            Sharing(PAIR, CHARTER, (), (0,))
        for liars in [(1, 0), (1, 1), (0, 1, 2), (6, 7)]:
            with self.assertRaises(BadLiars):
                Sharing(((5, 0), 7, 2), CHARTER, (), liars)

    def test_what_is_left_out_stands_for_nobody(self):
        sharing = done(Sharing(SMALL, CHARTER), [("propose", 0)])
        self.assertFalse(sharing.is_act(("propose", 0)))
        self.assertFalse(sharing.is_act(("vote", 3, 0)))
        self.assertTrue(sharing.is_act(("propose", 1)))


if __name__ == "__main__":
    unittest.main()
