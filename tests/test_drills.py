"""[120], [121], [122]: drills, with all care rules and without one of them."""

import copy
import random
import unittest
from itertools import product

from pursesapart.care import few_run, run_without
from pursesapart.drills import Drill, care_rules, drilled
from pursesapart.errors import BadAct, BadFrame, BadLiars, BadMember, BadRule, BadRun
from pursesapart.trust import Trust
from tests.bends import bends
from tests.helpers import LONG, check_errors, odd_values
from tests.plain_drill import RULES, PlainDrill, some_act, some_pay

ONE = ((5, 0), 1, 0)
FOUR = ((5, 0), 4, 1)
ALL = ("pay", 0, 1, 1, 5, (None, None))
LESS = ("pay", 0, 1, 1, 4, (None, None))
BAD_FRAMES = [
    None, 0, True, (), [], {}, "abc", list(FOUR), FOUR[:2], FOUR + (0,), ([5, 0], 4, 1), ((), 4, 1), ((1,) * 9, 4, 1),
    ((5, -1), 4, 1), ((True, 0), 4, 1), ((5, None), 4, 1), ((LONG, 0), 4, 1), ((LONG - 1, 1), 4, 1), ((5, 0), 0, 0),
    ((5, 0), 14, 1), ((5, 0), True, 0), ((5, 0), 4, True), ((5, 0), 4, -1), ((5, 0), 4, 4), ((5, 0), 4, 5),
    ((5, 0), "4", 1), ((5, 0), 4, None), ((5, 0), 1, False), ((5, 0), [4], 1), (5, 4, 1), ((5, 0), -1, -2), Trust(),
]
FEW = [((5, 0), 3, 1), ((5, 0), 6, 2), ((5, 0), 12, 4), ((5, 0), 2, 1), ((5, 0), 13, 12)]
BAD_LIARS = [None, 0, True, [], [1], (4,), (-1,), (True,), (1, 0), (1, 1), (0, 1), ("0",), (None,), {}, "", LONG, Trust()]
BAD_RULES = ["", "Once", 0, True, False, ("once",), ["once"], [], {}, {"once": 1}, "with", LONG, Trust()]


def behind(frame, liars, without, run):
    """The drill behind the run."""
    drill = Drill(frame, liars, without)
    for act in run:
        drill.act(act)
    return drill


class Drills(unittest.TestCase):
    def test_example_by_hand(self):
        drill = behind(ONE, (), None, [ALL, ("ask", 0, 0)])
        self.assertEqual(((0,), ()), (drill.certified(), drill.book_of(0)))
        back = ("pay", 1, 1, 0, 2, (0, None))
        for act in (back, ("ask", 0, 1)):
            self.assertIsNone(drill.act(act))
        self.assertEqual(((0, 1), (0,)), (drill.certified(), drill.book_of(0)))
        self.assertFalse(drill.is_act(back))
        other = ("pay", 1, 1, 0, 3, (0, None))
        told = (drill.certified(), drill.votes(), drill.book_of(0))
        for act in (other, ("ask", 0, 2)):
            drill.act(act)
        self.assertEqual((told[0], told[1] + ((),), told[2]), (drill.certified(), drill.votes(), drill.book_of(0)))
        self.assertIsNone(drill.wrong())
        run = [ALL, ("ask", 0, 0), back, ("ask", 0, 1), other, ("ask", 0, 2)]
        self.assertEqual(("clash", 1, 2), behind(ONE, (), "once", run).wrong())
        self.assertIsNone(drilled(ONE, (), None, run))
        self.assertEqual(("wrong", 5, ("clash", 1, 2)), drilled(ONE, (), "once", tuple(run)))
        self.assertEqual(("bad", 3), drilled(ONE, (), None, run[:3] + [back] + run[3:]))

    def test_attributes(self):
        for frame, liars, without in [(FOUR, (2,), "once"), (ONE, (), None), (FEW[0], (), "members")]:
            drill = Drill(frame, liars, without)
            self.assertEqual((frame, liars, without), (drill.frame, drill.liars, drill.without))
            self.assertEqual(((), (), (), None), (drill.payments(), drill.votes(), drill.certified(), drill.wrong()))

    def test_the_form(self):
        drill = Drill(((5, 0, 0), 4, 1), (), None)
        for act in [("pay", 0, 1, 1, 5, (None,) * 3), ("forge", 0, 2, 2, 9, (0, None, None)),
                    ("pay", 1, 1, 2, 7, (1, None, None)), ("pay", 0, 1, 1, 4, (None,) * 3)]:
            drill.act(act)
        self.assertEqual((0, 2, 2, 9, (0, None, None), False), drill.payments()[1])
        self.assertEqual((1, 1, 2, 7, (1, None, None), True), drill.payments()[2])
        good = ("pay", 2, 1, 0, 3, (1, 2, None))
        self.assertTrue(drill.is_act(good))
        for act in [("pay", 2, 2, 0, 3, (1, 2, None)), ("pay", 2, 0, 0, 3, (1, 2, None)), ("pay", 2, 1, 0, 0, (1, 2, None)),
                    ("pay", 2, 1, 3, 3, (1, 2, None)), ("pay", 3, 1, 0, 3, (1, 2, None)), ("pay", 2, 1, 0, 3, (1, 2)),
                    ("pay", 2, 1, 0, 3, (0, 2, None)), ("pay", 2, 1, 0, 3, (None, 2, None)), ("pay", 2, 1, 0, 3, (2, 2, None)),
                    ("pay", 2, 1, 0, 3, (1, None, 2)), ("pay", 2, 1, 0, 3, (3, 2, None)), ("pay", 2, 1, 0, 3, (1, 4, None)),
                    ("pay", 2, 1, 0, 3, (1, -1, None)), ("pay", 2, 1, 0, 3, (True, 2, None)), ("pay", 2, 1, 0, 3, [1, 2, None]),
                    ("pay", 2, True, 0, 3, (1, 2, None)), ("pay", 2, 1, False, 3, (1, 2, None)), ("pay", 2, 1, 0, True, (1, 2, None)),
                    ("pay", 2, 1, 0, LONG, (1, 2, None)), ("pay", 0, 1, 1, 5, (None,) * 3), ("forge", 0, 1, 1, 5, (None,) * 3),
                    ("pay", 0, 2, 2, 9, (0, None, None)), ("pay", 2, 1, 0, 3, (1, 2, None), True), list(good)]:
            with self.subTest(act=act):
                self.assertIs(False, drill.is_act(act))
                with self.assertRaises(BadAct):
                    drill.act(act)
        self.assertEqual(4, len(drill.payments()))
        self.assertTrue(drill.is_act(("pay", 2, 1, 0, LONG - 1, (1, 2, None))))
        self.assertTrue(drill.is_act(("forge", 0, 1, 0, 4, (None,) * 3)))

    def test_two_of_the_past_with_one_number(self):
        drill = behind(((5, 0, 5), 4, 1), (), None, [
            ("pay", 0, 1, 1, 5, (None,) * 3), ("pay", 0, 1, 1, 4, (None,) * 3), ("pay", 2, 1, 1, 1, (1, None, None))])
        self.assertFalse(drill.is_act(("pay", 1, 1, 1, 1, (0, None, 2))))
        self.assertFalse(drill.is_act(("pay", 1, 1, 1, 1, (1, None, 0))))
        self.assertTrue(drill.is_act(("pay", 1, 1, 1, 1, (1, None, 2))))

    def test_conditions_of_a_vote(self):
        """Sealed, covered, all causes in the book, and nothing else in the notes."""
        run = [ALL, LESS, ("forge", 0, 1, 1, 3, (None, None)), ("pay", 0, 1, 1, 6, (None, None)),
               ("pay", 1, 1, 0, 2, (0, None)), ("pay", 1, 1, 0, 6, (0, None)), ("pay", 0, 2, 0, 1, (3, None))]
        for payment, votes in [(0, True), (1, True), (2, False), (3, False), (4, False), (5, False), (6, False)]:
            drill = behind(FOUR, (3,), None, run + [("ask", 0, payment)])
            self.assertEqual((0,) if votes else (), drill.votes()[payment])
            drill.act(("ask", 3, payment))
            self.assertIn(3, drill.votes()[payment])
        drill = behind(FOUR, (3,), None, run + [("ask", 0, 0), ("ask", 0, 1), ("ask", 1, 0), ("ask", 2, 0)])
        self.assertEqual(((0, 1, 2), ()), drill.votes()[:2])
        drill.act(("ask", 0, 4))
        self.assertEqual(((0,), (0,)), (drill.votes()[4], drill.book_of(0)))
        drill.act(("ask", 1, 5))
        self.assertEqual(((), (0,)), (drill.votes()[5], drill.book_of(1)))
        drill.act(("ask", 2, 6))
        self.assertEqual(((), ()), (drill.votes()[6], drill.book_of(2)))
        self.assertIsNone(drill.book_of(3))

    def test_take_and_fall(self):
        run = [ALL, ("pay", 1, 1, 0, 2, (0, None))]
        drill = behind(FOUR, (3,), None, run)
        for act in [("take", 0, 0), ("take", 3, 0), ("fall", 3), ("fall", 4), ("fall", True), ("fall",), ("fall", 0, 0)]:
            self.assertFalse(drill.is_act(act))
        for act in [("ask", member, payment) for payment in (0, 1) for member in (0, 1, 3)]:
            drill.act(act)
        self.assertEqual((0, 1), drill.certified())
        self.assertFalse(drill.is_act(("take", 3, 0)))
        drill.act(("take", 2, 1))
        self.assertEqual((), drill.book_of(2))
        for act in [("take", 2, 0), ("fall", 2), ("take", 2, 1)]:
            drill.act(act)
        self.assertEqual((0, 1), drill.book_of(2))
        drill.act(("fall", 0))
        drill.act(LESS)
        drill.act(("ask", 0, 2))
        self.assertEqual((), drill.votes()[2])

    def test_taken_in_though_it_does_not_vote(self):
        run = [ALL, ("ask", 0, 0), ("forge", 1, 1, 0, 2, (0, None)), ("ask", 0, 1)]
        drill = behind(ONE, (), None, run)
        self.assertEqual(((0,), (0,), None), (drill.book_of(0), drill.certified(), drill.wrong()))

    def test_asked_again(self):
        """Whoever voted votes again for the same, and that is one vote, but without "unlike"."""
        for without, certified in [(None, ()), ("unlike", (0,)), ("enough", ())]:
            drill = behind(FOUR, (), without, [ALL] + [("ask", 0, 0)] * 3)
            self.assertEqual((((0,),), certified), (drill.votes(), drill.certified()))
        drill = behind(FOUR, (3,), "unlike", [ALL] + [("ask", 3, 0)] * 3)
        self.assertEqual((((3,),), (0,)), (drill.votes(), drill.certified()))

    def test_enough(self):
        for frame, need in [(FOUR, 2), (ONE, 1), (((5, 0), 2, 0), 1), (((5, 0), 13, 4), 8)]:
            run = [ALL] + [("ask", member, 0) for member in range(need)]
            self.assertEqual(((), (0,)), (behind(frame, (), "enough", run[:-1]).certified(),
                                          behind(frame, (), "enough", run).certified()))

    def test_once_keeps_the_last_payment_in_the_notes(self):
        """Fallen or not, the notes have the last one: asked for the first one again, a member votes and notes it."""
        drill = behind(FOUR, (), "once", [ALL, LESS, ("ask", 0, 0), ("ask", 0, 1), ("ask", 0, 0)])
        self.assertEqual(((0,), (0,)), drill.votes())

    def test_carried(self):
        run = [ALL, ("pay", 1, 1, 0, 5, (0, None)), ("ask", 0, 0), ("ask", 0, 1)]
        self.assertEqual(("refused", 0, 1), behind(ONE, (), "carried", run).wrong())
        taken = run[:3] + [("take", 0, 0)] + run[3:]
        self.assertIsNone(behind(ONE, (), "carried", taken).wrong())
        self.assertEqual((0, 1), behind(ONE, (), "carried", taken).certified())

    def test_wrong_of_each_kind_in_their_sequence(self):
        """A payment that is stolen, clashes and leaves a purse bare: what comes first is told, and stays."""
        forged = ("forge", 0, 1, 1, 3, (None, None))
        run = [ALL, forged, ("ask", 0, 0), ("ask", 0, 1)]
        few = ((5, 0), 2, 1)
        self.assertEqual(("clash", 0, 1), behind(few, (1,), "members", run[:3] + [("ask", 1, 1)]).wrong())
        self.assertEqual(("stolen", 0), behind(few, (1,), "members", [forged, ("ask", 1, 0)]).wrong())
        poor = ("pay", 0, 1, 1, 6, (None, None))
        self.assertEqual(("bare", 0), behind(few, (1,), "members", [poor, ("ask", 1, 0)]).wrong())
        poor = ("forge", 0, 1, 1, 6, (None, None))
        drill = behind(few, (1,), "members", [poor, ("ask", 1, 0)])
        self.assertEqual(("stolen", 0), drill.wrong())
        for act in [LESS, ("ask", 0, 1)]:
            drill.act(act)
        self.assertEqual(("stolen", 0), drill.wrong())
        self.assertEqual(("stolen", 0), behind(ONE, (), "sealed", [forged, ALL, ("ask", 0, 0), ("ask", 0, 1)]).wrong())

    def test_wrong_is_looked_for_behind_an_ask(self):
        """Neither a payment nor a fall makes anything wrong; a purse may be bare at first and not at last."""
        out = [ALL, ("pay", 1, 1, 0, 5, (0, None)), ("ask", 0, 1)]
        self.assertEqual(("bare", 1), behind(ONE, (), "causes", out).wrong())
        self.assertIsNone(behind(ONE, (), "causes", out[:2] + [("ask", 0, 0), ("ask", 0, 1)]).wrong())

    def test_refused_needs_the_past_to_be_certified(self):
        run = [ALL, ("pay", 1, 1, 0, 5, (0, None)), ("ask", 0, 1)]
        for without in (None, "carried"):
            self.assertIsNone(behind(ONE, (), without, run).wrong())
        self.assertIsNone(behind(ONE, (), "carried", [ALL, ("pay", 1, 1, 0, 6, (0, None)), ("ask", 0, 0), ("ask", 0, 1)]).wrong())

    def test_odd_values_are_no_acts(self):
        drill = behind(FOUR, (3,), None, [ALL, ("ask", 0, 0), ("ask", 1, 0), ("ask", 2, 0)])
        values = odd_values() + [("ask",), ("ask", 0), ("ask", 0, 1), ("ask", 4, 0), ("ask", -1, 0), ("ask", True, 0),
                                 ("ask", 0, False), ("ask", 0, None), ("ask", None, 0), ("ask", [0], 0), ["ask", 0, 0],
                                 ("ask", 0, 0, 0), ("take", 0, True), ("take", 3, 0), ("take", True, 0), ("give", 0, 0),
                                 (None, 0, 0), ([], 0, 0), (0, 0, 0), ("pay",), ("pay", ALL), ("fall", None), ("fall", [0])]
        for value in values:
            with self.subTest(value=value):
                self.assertIs(False, drill.is_act(value))
                with self.assertRaises(BadAct):
                    drill.act(value)
        for good in [("ask", 0, 0), ("take", 0, 0), ("fall", 0), LESS]:
            self.assertIs(True, drill.is_act(good))
            for value in bends(good, [None, True, -1, "take", (), LONG]):
                if drill.is_act(value):
                    self.assertEqual((tuple, str), (type(value), type(value[0])))
                    self.assertNotIn(True, [item is True for item in value])

    def test_runs_against_the_words(self):
        found = {}
        for seed in range(900):
            dice = random.Random(seed)
            without = (None,) + RULES
            without = without[seed % 10]
            frame = dice.choice([FOUR, ((3, 2), 4, 1), ONE, ((5, 0), 2, 0), ((4, 0, 1), 3, 0), ((2,), 4, 1), ((5, 1), 7, 2)])
            if without == "members":
                frame = dice.choice(FEW[:4])
            liars = tuple(sorted(dice.sample(range(frame[1]), dice.randrange(frame[2] + 1))))
            told = self.check_run(dice, frame, liars, without)
            found[told] = found.get(told, 0) + 1
        self.assertGreaterEqual(set(found), {None, "clash", "stolen", "bare", "refused"})

    def check_run(self, dice, frame, liars, without):
        """A drawn run, told the same way as by the words behind each act."""
        drill, words, run = Drill(frame, liars, without), PlainDrill(frame, liars, without), []
        for _ in range(40):
            self.check_acts(dice, drill, words)
            act = some_act(dice, words, 0.2, 0.25)
            if act is not None:
                drill.act(act)
                words.do(act)
                run.append(act)
                self.check_told(drill, words)
                if drill.wrong() is not None:
                    self.assertEqual(("wrong", len(run) - 1, drill.wrong()), drilled(frame, liars, without, run))
                    return drill.wrong()[0]
        self.assertIsNone(drilled(frame, liars, without, run))
        return None

    def check_told(self, drill, words):
        self.assertEqual((tuple(words.made), words.votes(), words.certified(), words.told),
                         (drill.payments(), drill.votes(), drill.certified(), drill.wrong()))
        for member in range(words.frame[1]):
            book = words.books.get(member)
            self.assertEqual(None if book is None else tuple(sorted(book)), drill.book_of(member))

    def check_acts(self, dice, drill, words):
        """Some acts that can be done, and some that cannot."""
        many, purses = len(words.made), len(words.frame[0])
        acts = [(word, dice.randrange(words.frame[1] + 1), dice.randrange(many + 1)) for word in ("ask", "take")]
        acts.append(("fall", dice.randrange(words.frame[1] + 1)))
        told = some_pay(dice, words)
        if told is not None:
            causes = list(told[4])
            causes[dice.randrange(purses)] = dice.choice([None, *range(many)])
            acts += [("pay",) + told, ("forge",) + told[:4] + (tuple(causes),), ("pay", told[0], told[1] + 1) + told[2:],
                     ("pay", dice.randrange(purses + 1)) + told[1:]]
        for act in acts:
            self.assertIs(words.can(act), drill.is_act(act), act)

    def test_all_runs_of_small_frames(self):
        """HEART: with all rules nothing goes wrong, over all that can be reached with some payments."""
        palette = [ALL, LESS, ("pay", 0, 1, 0, 6, (None, None)), ("pay", 1, 1, 0, 4, (0, None)), ("pay", 1, 1, 0, 5, (1, None)),
                   ("forge", 0, 2, 1, 1, (1, None)), ("pay", 0, 2, 0, 1, (1, None))]
        states = 0
        for frame, liars in [(((5, 0), 4, 1), (3,)), (((5, 0), 3, 0), ()), (((5, 0), 1, 0), ())]:
            for some in [palette[:2] + palette[at:at + 1] for at in range(2, 7)] + [[ALL, LESS]]:
                states += self.reach(frame, liars, some)
        self.assertGreater(states, 7000)

    def reach(self, frame, liars, made):
        """How many states there are behind these payments; nothing is wrong in any of them."""
        words = PlainDrill(frame, liars, None)
        drill = Drill(frame, liars, None)
        for act in made:
            words.do(act)
            drill.act(act)
        met, waiting = set(), [(drill, words)]
        acts = [(word, member, at) for word in ("ask", "take") for member in range(frame[1]) for at in range(len(made))]
        acts += [("fall", member) for member in range(frame[1])]
        while waiting:
            drill, words = waiting.pop()
            for act in acts:
                if not drill.is_act(act):
                    continue
                key = self.key_behind(words, act)
                if key not in met:
                    met.add(key)
                    wider, same = copy.deepcopy(drill), copy.deepcopy(words)
                    wider.act(act)
                    same.do(act)
                    self.assertIsNone(wider.wrong())
                    self.assertEqual(same.votes(), wider.votes())
                    waiting.append((wider, same))
        return len(met)

    def key_behind(self, words, act):
        words = copy.deepcopy(words)
        words.do(act)
        return repr((sorted(set(words.asked)), sorted(words.books.items()), sorted(words.notes.items())))

    def test_heart(self):
        """Nothing is wrong behind whatever acts, over long runs."""
        for seed in range(120):
            dice = random.Random(seed)
            frame = dice.choice([FOUR, ((3, 2, 1), 4, 1), ((9, 9), 7, 2), ((6, 3), 10, 3), ((4, 4), 13, 4), ONE])
            liars = tuple(sorted(dice.sample(range(frame[1]), frame[2])))
            words, drill = PlainDrill(frame, liars, None), Drill(frame, liars, None)
            for _ in range(150):
                act = some_act(dice, words, 0.1, 0.15, 12)
                if act is not None:
                    drill.act(act)
                    words.do(act)
                    self.assertIsNone(drill.wrong())

    def test_nobody_waits(self):
        """A payment with a purse's next number, of which there is none yet, is certified as soon as all were asked."""
        many = 0
        for seed in range(350):
            dice = random.Random(seed)
            frame = dice.choice([FOUR, ((3, 2, 1), 4, 1), ((9, 9), 7, 2), ONE])
            liars = tuple(sorted(dice.sample(range(frame[1]), frame[2])))
            words, drill = PlainDrill(frame, liars, None), Drill(frame, liars, None)
            for _ in range(dice.randrange(60)):
                act = some_act(dice, words, 0.1, 0.15, 10)
                if act is not None:
                    drill.act(act)
                    words.do(act)
            for purse in range(len(frame[0])):
                many += self.check_next(dice, drill, words, purse)
        self.assertGreater(many, 80)

    def check_next(self, dice, drill, words, purse):
        certified = drill.certified()
        number = 1 + sum(words.made[at][0] == purse for at in certified)
        held = words.held(purse, certified)
        if held == 0 or any(one[:2] == (purse, number) for one in words.made):
            return 0
        causes = tuple(max([at for at in certified if words.made[at][0] == one], key=lambda at: words.made[at][1],
                           default=None) for one in range(len(words.frame[0])))
        act = ("pay", purse, number, dice.randrange(len(causes)), dice.choice([held, dice.randint(1, held)]), causes)
        self.assertTrue(drill.is_act(act))
        drill.act(act)
        words.do(act)
        honest = [member for member in range(words.frame[1]) if member not in words.liars]
        for member in dice.sample(honest, len(honest)):
            drill.act(("ask", member, len(words.made) - 1))
            words.do(("ask", member, len(words.made) - 1))
        self.assertIn(len(words.made) - 1, drill.certified())
        return 1

    def test_honest_owners_need_no_care(self):
        """All payments sealed and covered, of unlike numbers, made when their causes are certified."""
        for seed in range(240):
            dice = random.Random(seed)
            without = [rule for rule in RULES if rule != "carried"][seed % 8]
            frame = dice.choice(FEW if without == "members" else [FOUR, ((3, 2, 1), 4, 1), ((9, 9), 7, 2), ONE])
            liars = tuple(sorted(dice.sample(range(frame[1]), dice.randrange(frame[2] + 1))))
            drill, words = Drill(frame, liars, without), PlainDrill(frame, liars, without)
            for _ in range(60):
                act = some_act(dice, words, 0, 0, 9)
                if act is None or act[0] == "pay" and not self.is_honest(words, act):
                    continue
                drill.act(act)
                words.do(act)
                self.assertIsNone(drill.wrong(), (without, frame, liars))

    def is_honest(self, words, act):
        past = words.past(act[5])
        if any(one[:2] == act[1:3] for one in words.made) or words.held(act[1], past) < act[4]:
            return False
        return {cause for cause in act[5] if cause is not None} <= set(words.certified())

    def test_care_rules(self):
        self.assertEqual(RULES, care_rules())
        for rule in care_rules():
            frame, liars, run = run_without(rule)
            self.assertIs(tuple, type(run))
            told = drilled(frame, liars, rule, run)
            self.assertEqual(("wrong", len(run) - 1), told[:2])
            self.assertLessEqual(len(liars), frame[2])
            if rule != "members":
                self.assertIsNone(drilled(frame, liars, None, run))
            else:
                with self.assertRaises(BadFrame):
                    Drill(frame, liars, None)

    def test_few_runs(self):
        pairs = 0
        for members, lies in product(range(1, 14), range(1, 14)):
            if lies < members <= 3 * lies:
                frame, liars, run = few_run(members, lies)
                self.assertEqual((members, lies, tuple), (frame[1], frame[2], type(run)))
                self.assertEqual(("wrong", len(run) - 1), drilled(frame, liars, "members", run)[:2])
                with self.assertRaises(BadFrame):
                    Drill(frame, liars, None)
                pairs += 1
            else:
                with self.assertRaises(BadFrame):
                    few_run(members, lies)
        self.assertGreater(pairs, 50)

    def test_errors_of_drills(self):
        bad = [value for value in BAD_FRAMES + odd_values() + FEW]
        frames = ("frame", FOUR, BadFrame, bad)
        liars = ("liars", (3,), BadLiars, BAD_LIARS)
        rules = ("without", None, BadRule, BAD_RULES)
        check_errors(self, Drill, [frames, liars, rules])
        runs = [None, 0, True, {}, "abc", Trust(), [ALL] * 301, (ALL,) * 301, LONG]
        check_errors(self, drilled, [frames, liars, rules, ("run", [], BadRun, runs)])
        for frame in BAD_FRAMES:
            with self.assertRaises(BadFrame):
                Drill(frame, (), "members")
        for some in [(1, 0), (1, 1), (0, 1, 2), (6, 7)]:
            with self.assertRaises(BadLiars):
                Drill(((5, 0), 7, 2), some, None)
        Drill(((5, 0), 7, 2), (0, 6), None)
        for frame in FEW + [FOUR]:
            Drill(frame, (), "members")
        self.assertEqual(("bad", 1), drilled(FOUR, (), None, [ALL] * 300))

    def test_drilled_of_items_that_are_no_acts(self):
        for value in odd_values():
            if value == ALL:
                continue
            self.assertEqual(("bad", 1), drilled(FOUR, (), None, [ALL, value]))
            self.assertEqual(("bad", 0), drilled(FOUR, (), "once", (value, ALL)))

    def test_other_errors(self):
        drill = Drill(FOUR, (), None)
        for member in [4, -1, True, False, None, "0", (0,), [0], LONG, {}]:
            with self.assertRaises(BadMember):
                drill.book_of(member)
        for rule in BAD_RULES + [None]:
            with self.assertRaises(BadRule):
                run_without(rule)
        for members, lies in [(4, 1), (3, 0), (1, 1), (2, True), (True, 1), (None, 1), (3, None), ("3", 1), (14, 5), (14, 13),
                              (3, -1), (3, (1,)), ([3], 1), (LONG, LONG - 1), (0, 0), (13, 4)]:
            with self.assertRaises(BadFrame):
                few_run(members, lies)

    def test_three_hundred_acts(self):
        run, last = [], None
        for number in range(1, 151):
            run += [("pay", 0, number, 0, 5, (last,)), ("ask", number % 4, number - 1)]
            last = number - 1
        self.assertIsNone(drilled(((5,), 4, 1), (), None, run))
        run = [("pay", 0, 1, 1, 5, (None, None))] + [("ask", member % 4, 0) for member in range(299)]
        self.assertIsNone(drilled(FOUR, (3,), None, run))


if __name__ == "__main__":
    unittest.main()
