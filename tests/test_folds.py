"""[102], [103]: what may be forgotten, and what is kept in its place."""

import random
import unittest
from itertools import combinations

from pursesapart.errors import BadBank, BadKept, BadLot, BadPart, BadTrust, StillHeld
from pursesapart.folds import forgettable, holder_of, kept_of, right_above
from pursesapart.lots import content_for, is_right_lot, lasts_of, row_of, totals
from pursesapart.payments import is_right
from pursesapart.trust import Trust
from tests.bends import bends
from tests.helpers import BAD_BANKS, BAD_ROWS, BAD_TRUSTS, LONG, SMALL, THREE, chain, check_errors, odd_values, pay
from tests.plain import Plain
from tests.webs import grow, grow_lot

BANKS = [((4, 0), 4, 1), ((3, 2), 4, 1), ((2, 0, 1), 4, 1), ((5, 5, 0), 4, 1), ((1,), 1, 0), ((0, 3), 4, 1)]


def plain_lots(plain, part):
    """All lots within the part."""
    return [some for many in range(len(part) + 1) for some in combinations(part, many)
            if all(plain.past(name) <= set(some) for name in some)]


def plain_holder(plain, lot, part):
    """The words of holder_of, over all lots within the part."""
    for name in lot:
        if name not in part and not set(part) <= plain.past(name):
            return ("here", name)
    for purse in range(plain.purses):
        last = plain.last(lot, purse)
        if last is not None and last not in part:
            continue
        own = set().union(*[plain.past(name) for name in part if plain.place(name)[0] == purse])
        inward = [name for name in part if plain.parts(name)[2] == purse]
        told = [own] + [own | plain.past(name) for name in inward]
        can, least = False, []
        for some in plain_lots(plain, part):
            if some != part and own <= set(some) and plain.purses_behind(some)[purse] > 0:
                can = True
                if set(some) in told:
                    least.append((len(some), some))
        assert can == bool(least)
        if can:
            return ("next", purse, min(least)[1])
    return None


def small_lot(seed, most=7):
    """A plain view and a right lot, of whatever shape."""
    dice = random.Random(seed)
    bank = BANKS[seed % len(BANKS)]
    plain, lot = grow_lot(seed, bank, dice.randrange(most + 1), seeing=dice.choice([0.3, 0.6, 0.9, 1.0]), most=2)
    if dice.random() < 0.3:
        # One that sees all, as often as not with all that its purse holds.
        held = totals(plain.trust, bank, lot)
        purse = max(range(len(held)), key=lambda at: held[at])
        lot += (plain.trust.name(content_for(plain.trust, bank, lot, purse, dice.randrange(len(held)), held[purse])),)
    return plain, lot


class Folds(unittest.TestCase):
    def setUp(self):
        self.trust = Trust()
        self.x = pay(self.trust, 0, 1, 1, 3, None, None)
        self.y = pay(self.trust, 1, 1, 0, 2, self.x, None)
        self.lot = (self.x, self.y)

    def holder(self, lot, part):
        return holder_of(self.trust, SMALL, lot, part)

    def test_example_by_hand(self):
        self.assertIsNone(self.holder(self.lot, (self.x,)))
        self.assertEqual(("next", 0, (self.x,)), self.holder(self.lot, self.lot))
        self.assertEqual((self.x,), forgettable(self.trust, SMALL, self.lot))
        kept = kept_of(self.trust, SMALL, self.lot, (self.x,))
        self.assertEqual(((1, 0), (self.x, None), (2, 3)), kept)
        self.assertTrue(right_above(self.trust, SMALL, kept, self.y))
        self.assertFalse(right_above(self.trust, SMALL, kept, self.x))

    def test_nothing_is_held_by_none(self):
        for lot in ((), (self.x,), self.lot):
            self.assertIsNone(self.holder(lot, ()))
        self.assertEqual((), forgettable(self.trust, SMALL, ()))
        self.assertEqual(((0, 0), (None, None), (5, 0)), kept_of(self.trust, SMALL, (), ()))

    def test_held_here(self):
        """The least payment of the lot that does not see the part, also where others do."""
        trust = Trust()
        bank = ((5, 5, 0), 4, 1)
        first = pay(trust, 0, 1, 2, 1, None, None, None)
        other = pay(trust, 1, 1, 2, 1, None, None, None)
        above = pay(trust, 0, 2, 2, 1, first, other, None)
        later = pay(trust, 1, 2, 2, 1, None, other, None)
        lot = (first, other, above, later)
        self.assertEqual(("here", other), holder_of(trust, bank, lot, (first,)))
        self.assertEqual(("here", first), holder_of(trust, bank, lot, (other,)))
        self.assertEqual(("here", later), holder_of(trust, bank, lot, (first, other)))
        self.assertEqual((), forgettable(trust, bank, lot))

    def test_held_by_the_next_payment(self):
        self.assertEqual(("next", 0, (self.x,)), self.holder(self.lot, self.lot))
        self.assertIsNone(holder_of(self.trust, ((3, 0), 4, 1), self.lot, self.lot))
        self.assertIsNone(self.holder((self.x,), ()))
        self.assertIsNone(self.holder((self.x,), (self.x,)))
        self.assertEqual(("next", 1, ()), holder_of(self.trust, ((5, 1), 4, 1), (self.x,), (self.x,)))

    def test_the_least_lot_by_which_a_purse_can_pay(self):
        """By length, then by Python's order; purse 2 has nothing of its own."""
        trust = Trust()
        bank = ((9, 9, 0), 4, 1)
        one = pay(trust, 0, 1, 1, 9, None, None, None)
        two = pay(trust, 1, 1, 2, 1, one, None, None)
        three = pay(trust, 1, 2, 2, 17, one, two, None)
        self.assertIsNone(holder_of(trust, bank, (one, two), (one, two)))
        self.assertEqual(("next", 0, (one,)), holder_of(trust, ((10, 9, 0), 4, 1), (one, two), (one, two)))
        self.assertEqual(("next", 2, (one, two)), holder_of(trust, bank, (one, two, three), (one, two, three)))
        pair = [pay(trust, purse, 1, 2, 9, None, None, None) for purse in (1, 0)]
        self.assertEqual(("next", 2, tuple(sorted(pair)[:1])), holder_of(trust, bank, tuple(sorted(pair)), tuple(sorted(pair))))

    def test_lots_against_the_words(self):
        found = {}
        for seed in range(500):
            plain, lot = small_lot(seed)
            free = []
            for part in plain_lots(plain, lot):
                expected = plain_holder(plain, lot, part)
                self.assertEqual(expected, holder_of(plain.trust, plain.bank, lot, part), (seed, part))
                word = None if expected is None else expected[0]
                found[word] = found.get(word, 0) + 1
                if expected is None:
                    free.append(part)
                    last = tuple(plain.last(part, purse) for purse in range(plain.purses))
                    row = tuple(0 if name is None else plain.place(name)[1] for name in last)
                    self.assertEqual((row, last, plain.purses_behind(part)),
                                     kept_of(plain.trust, plain.bank, lot, part))
                else:
                    with self.assertRaises(StillHeld) as caught:
                        kept_of(plain.trust, plain.bank, lot, part)
                    self.assertEqual(expected, caught.exception.holder)
            greatest = max(free, key=len)
            found[len(greatest)] = found.get(len(greatest), 0) + 1
            self.assertEqual(greatest, forgettable(plain.trust, plain.bank, lot))
            for part in free:
                self.assertLessEqual(set(part), set(greatest))
            for one, other in combinations(free, 2):
                self.assertTrue(set(one) <= set(other) or set(other) <= set(one))
        self.assertGreater(min(found[word] for word in (None, "here", "next", 0, 1, 2, 3)), 10, found)

    def later(self, dice, plain, lot, many=12):
        """Right payments beside and above the lot, in whose pasts nothing clashes with it."""
        names = list(lot)
        for _ in range(many):
            seen = set()
            for name in dice.sample(names, len(names)):
                if dice.random() < 0.7:
                    seen |= plain.past(name)
            seen = tuple(sorted(seen))
            if plain.clashes(seen):
                continue
            held = plain.purses_behind(seen)
            purse = dice.randrange(plain.purses)
            if held[purse] > 0:
                content = content_for(plain.trust, plain.bank, seen, purse, dice.randrange(plain.purses),
                                      dice.randint(1, held[purse]))
                name = plain.trust.name(content)
                if not plain.clashes(set(lot) | plain.past(name)) and name not in names:
                    names.append(name)
        return names

    def test_heart_of_forgetting(self):
        """What nothing holds, each right payment is of it or sees it; what is held, some right payment does not see."""
        found = [0, 0]
        for seed in range(250):
            plain, lot = small_lot(seed, 6)
            names = self.later(random.Random(seed), plain, lot)
            for part in plain_lots(plain, lot):
                holder = holder_of(plain.trust, plain.bank, lot, part)
                found[holder is None] += 1
                if holder is None:
                    for name in names:
                        self.assertTrue(name in part or set(part) <= plain.past(name))
                    continue
                one = holder[1]
                if holder[0] == "next":
                    self.assertTrue(is_right_lot(plain.trust, plain.bank, holder[2]))
                    one = plain.trust.name(content_for(plain.trust, plain.bank, holder[2], holder[1], holder[1], 1))
                self.assertIsNone(plain.fault(one))
                self.assertEqual([], plain.clashes(set(lot) | plain.past(one)))
                self.assertFalse(one in part or set(part) <= plain.past(one))
        self.assertGreater(min(found), 100, found)

    def test_what_nothing_holds_once_nothing_holds_later(self):
        found = 0
        for seed in range(200):
            plain, lot = small_lot(seed, 6)
            names = self.later(random.Random(seed), plain, lot, 8)
            wider = set(lot)
            for name in names:
                if not plain.clashes(wider | plain.past(name)):
                    wider |= plain.past(name)
            wider = tuple(sorted(wider))
            least = forgettable(plain.trust, plain.bank, lot)
            self.assertIsNone(holder_of(plain.trust, plain.bank, wider, least))
            self.assertLessEqual(set(least), set(forgettable(plain.trust, plain.bank, wider)))
            found += len(least) > 0 and len(wider) > len(lot)
        self.assertGreater(found, 30)

    def test_what_is_kept_is_enough(self):
        """Right and no payment of part exactly if right above; the payments, and bent ones."""
        found = {}
        for seed in range(250):
            plain, lot = small_lot(seed, 6)
            part = forgettable(plain.trust, plain.bank, lot)
            kept = kept_of(plain.trust, plain.bank, lot, part)
            dice = random.Random(seed)
            for name in self.later(dice, plain, lot) + self.bent(dice, plain, lot):
                if not self.is_beside(plain, lot, name):
                    continue
                expected = plain.fault(name) is None and name not in part
                self.assertIs(expected, right_above(plain.trust, plain.bank, kept, name), (seed, name))
                found[expected, len(part) > 0] = found.get((expected, len(part) > 0), 0) + 1
        self.assertGreater(min(found.values()), 50, found)
        self.assertEqual(4, len(found))

    def is_beside(self, plain, lot, name):
        """Whether nothing in the past clashes with the lot."""
        past = [one for one in plain.past(name) if plain.parts(one) is not None]
        return not any(one != other and plain.place(one) == plain.place(other) for one in past for other in lot)

    def bent(self, dice, plain, lot):
        """Payments above the lot whose contents are bent in a place."""
        names = []
        for name in self.later(dice, plain, lot, 6):
            _, purse, number, to, amount, causes = plain.trust.content(name)
            at = dice.randrange(len(causes))
            for cause in [None, *names[:2], *lot]:
                names.append(plain.trust.name(("pay", purse, number, to, amount,
                                               causes[:at] + (cause,) + causes[at + 1:])))
            names.append(plain.trust.name(("pay", purse, number + 1, to, amount, causes)))
            names.append(plain.trust.name(("pay", purse, number, to, amount + dice.randrange(4), causes)))
            names.append(plain.trust.name(("pay", dice.randrange(plain.purses), number, to, amount, causes)))
            names.append(plain.trust.name(("pay", purse, number, to, dice.randint(1, 3),
                                           causes[:at] + (dice.choice(names),) + causes[at + 1:])))
        return names

    def test_each_condition_by_itself(self):
        """kept is (2, 0, 1) payments; the names in kept are of other contents altogether."""
        trust = Trust()
        one, two = trust.name("gone"), trust.name(("gone", 2))
        kept = ((2, 0, 1), (one, None, two), (4, 3, 0))
        bank = THREE

        def above(*parts):
            return right_above(trust, bank, kept, trust.name(("pay",) + parts))

        self.assertTrue(above(0, 3, 1, 4, (one, None, two)))
        self.assertFalse(above(0, 3, 1, 5, (one, None, two)))
        self.assertFalse(above(0, 2, 1, 4, (one, None, two)))
        self.assertFalse(above(0, 4, 1, 4, (one, None, two)))
        self.assertFalse(above(0, 3, 1, 4, (two, None, two)))
        self.assertFalse(above(0, 3, 1, 4, (one, two, two)))
        self.assertFalse(above(0, 3, 1, 4, (None, None, two)))
        self.assertFalse(above(0, 3, 1, 4, (one, None, None)))
        self.assertFalse(above(0, 3, 1, 4, (one, None, trust.name("some"))))
        self.assertFalse(above(0, 3, 1, 4, (one, trust.name("some"), two)))
        self.assertFalse(above(2, 2, 1, 1, (one, None, two)))
        self.assertTrue(above(1, 1, 1, 3, (one, None, two)))
        self.assertFalse(above(1, 2, 1, 3, (one, None, two)))
        self.assertFalse(above(3, 1, 1, 1, (one, None, two)))
        self.assertFalse(above(1, 1, 1, 0, (one, None, two)))
        self.assertFalse(above(1, 1, 1, 1, (one, None)))
        first = pay(trust, 1, 1, 2, 3, one, None, two)
        self.assertTrue(above(2, 2, 0, 3, (one, first, two)))
        self.assertFalse(above(2, 2, 0, 4, (one, first, two)))
        self.assertFalse(above(1, 2, 0, 1, (one, first, two)))
        self.assertFalse(above(2, 2, 0, 1, (first, None, two)))
        third = pay(trust, 2, 2, 0, 3, one, first, two)
        self.assertTrue(above(0, 3, 1, 7, (one, first, third)))
        self.assertFalse(above(0, 3, 1, 8, (one, first, third)))
        # The past has a payment of purse 1, but the cause for it is left out, or another one.
        self.assertFalse(above(0, 3, 1, 1, (one, None, third)))
        rival = pay(trust, 1, 1, 2, 2, one, None, two)
        self.assertTrue(right_above(trust, bank, kept, rival))
        self.assertFalse(above(0, 3, 1, 1, (one, rival, third)))
        # The past has a payment of purse 2, but the cause for it is the one that was kept.
        back = pay(trust, 1, 2, 1, 1, one, first, third)
        self.assertFalse(right_above(trust, bank, kept, back))
        fourth = pay(trust, 0, 3, 1, 1, one, first, third)
        self.assertTrue(right_above(trust, bank, kept, fourth))
        self.assertFalse(above(0, 4, 1, 1, (fourth, first, two)))
        self.assertTrue(above(0, 4, 1, 6, (fourth, first, third)))
        self.assertFalse(above(0, 5, 1, 6, (fourth, first, third)))
        self.assertFalse(above(0, 4, 1, 7, (fourth, first, third)))
        # One cause is not right by itself: so is all that is above it.
        poor = pay(trust, 1, 1, 0, 4, one, None, two)
        self.assertFalse(right_above(trust, bank, kept, poor))
        self.assertFalse(above(0, 3, 1, 1, (one, poor, two)))

    def test_two_below_with_one_purse_and_number(self):
        """Each cause is the last one of its purse, but below them two of purse 0 have the number 1."""
        trust = Trust()
        nothing = ((0, 0), (None, None), (5, 5))
        one, two = pay(trust, 0, 1, 1, 1, None, None), pay(trust, 0, 1, 1, 2, None, None)
        above, other = pay(trust, 0, 2, 1, 1, one, None), pay(trust, 1, 1, 0, 1, two, None)
        same = pay(trust, 1, 1, 0, 1, one, None)
        self.assertFalse(right_above(trust, ((5, 5), 4, 1), nothing, pay(trust, 1, 2, 0, 1, above, other)))
        self.assertTrue(right_above(trust, ((5, 5), 4, 1), nothing, pay(trust, 1, 2, 0, 1, above, same)))

    def test_no_content_of_a_kept_name_is_looked_at(self):
        class Watched(Trust):
            asked = []

            def content(self, name):
                self.asked.append(name)
                return super().content(name)

        trust = Watched()
        gone, other = trust.name("gone"), trust.name(("pay", 0, 1, 0, 1, (None, None)))
        upper = trust.name(("pay", 0, 2, 1, 1, (gone, other)))
        top = trust.name(("pay", 1, 2, 0, 1, (upper, other)))
        bent = trust.name(("pay", 1, 2, 0, 1, (other, other)))
        kept = ((1, 1), (gone, other), (2, 3))
        self.assertTrue(right_above(trust, SMALL, kept, top))
        for name in (gone, other, bent):
            self.assertFalse(right_above(trust, SMALL, kept, name))
        self.assertEqual({upper, top, bent}, set(trust.asked))

    def test_long_lots(self):
        bank = ((200, 200, 200), 4, 1)
        names = tuple(chain(self.trust, bank, 400))
        self.assertEqual(398, len(forgettable(self.trust, bank, names)))
        kept = kept_of(self.trust, bank, names, names[:398])
        self.assertTrue(right_above(self.trust, bank, kept, names[399]))
        self.assertTrue(right_above(self.trust, bank, ((0, 0, 0), (None, None, None), bank[0]), names[399]))
        self.assertFalse(right_above(self.trust, bank, kept, names[397]))
        self.assertIsNotNone(holder_of(self.trust, bank, names, names))
        wide = ((400,), 1, 0)
        own = []
        for number in range(1, 401):
            own.append(pay(self.trust, 0, number, 0, 400, own[-1] if own else None))
        self.assertEqual(tuple(own), forgettable(self.trust, wide, tuple(own)))

    def test_webs_with_faults(self):
        """Payments of whatever kind, above nothing: right above exactly if right."""
        found = [0, 0]
        for seed in range(120):
            plain, names = grow(seed, BANKS[seed % 4], 9, poor=0.1, bent=0.2)
            nothing = ((0,) * plain.purses, (None,) * plain.purses, plain.bank[0])
            for name in names:
                expected = is_right(plain.trust, plain.bank, name)
                self.assertIs(expected, right_above(plain.trust, plain.bank, nothing, name))
                found[expected] += 1
        self.assertGreater(min(found), 100)

    def test_odd_values_are_not_right_above(self):
        kept = kept_of(self.trust, SMALL, self.lot, (self.x,))
        for value in odd_values() + [kept, [self.y], (self.y,), self.trust.name("pay")]:
            if value != self.x:
                self.assertIs(False, right_above(self.trust, SMALL, kept, value))
        self.assertIs(True, right_above(self.trust, SMALL, kept, self.y))

    def test_errors(self):
        poor = pay(self.trust, 0, 1, 1, 6, None, None)
        rival = pay(self.trust, 0, 1, 1, 1, None, None)
        bad_lots = odd_values() + [[self.x], (self.y,), (self.y, self.x), (poor,), (self.x, self.x), (self.x, rival), self.x]
        bad_lots = [value for value in bad_lots if value != ()]
        bad_parts = bad_lots + [(rival,), [], (True,), ((self.x,),), self.lot + (rival,), (self.x, True)]
        first = [("trust", self.trust, BadTrust, BAD_TRUSTS), ("bank", SMALL, BadBank, BAD_BANKS)]
        lots = first + [("lot", self.lot, BadLot, bad_lots)]
        check_errors(self, holder_of, lots + [("part", (self.x,), BadPart, bad_parts)])
        check_errors(self, kept_of, lots + [("part", (self.x,), BadPart, bad_parts)])
        check_errors(self, forgettable, lots)
        kept = kept_of(self.trust, SMALL, self.lot, (self.x,))
        most = pay(self.trust, 0, 3, 0, LONG - 1, self.x, None)
        bad_kept = odd_values() + [(row, kept[1], kept[2]) for row in BAD_ROWS + [(0, 0), (1, 1)]]
        bad_kept += [(kept[0], kept[1], row) for row in BAD_ROWS] + [list(kept), kept[:2], kept + (None,)]
        bad_kept += [(kept[0], last, kept[2]) for last in [
            None, self.x, [self.x, None], (self.x,), (self.x, None, None), (None, None), (self.x, self.y), (True, None),
            (("name", self.trust.size()), None), (("name", True), None), (["name", 0], None), (self.x, 0)]]
        self.assertTrue(right_above(self.trust, SMALL, ((2, 0), (self.x, None), (LONG - 1, LONG - 1)), most))
        check_errors(self, right_above, first + [("kept", kept, BadKept, bad_kept), ("payment", self.y, None, [])])

    def test_still_held_comes_behind_the_others(self):
        with self.assertRaises(StillHeld) as caught:
            kept_of(self.trust, SMALL, self.lot, self.lot)
        self.assertEqual(("next", 0, (self.x,)), caught.exception.holder)
        for part in list(self.lot), (self.y,):
            with self.assertRaises(BadPart):
                kept_of(self.trust, SMALL, self.lot, part)

    def test_bent_kept(self):
        """Each bent triple is either refused, or told of by its own numbers."""
        kept = kept_of(self.trust, SMALL, self.lot, (self.x,))
        counts = [0, 0]
        for value in bends(kept, [None, True, -1, self.x]):
            try:
                self.assertIn(right_above(self.trust, SMALL, value, self.y), (True, False))
                counts[0] += 1
                self.assertEqual((tuple, 3), (type(value), len(value)))
            except BadKept:
                counts[1] += 1
        self.assertGreater(min(counts), 0)

    def test_row_last_and_totals(self):
        kept = kept_of(self.trust, SMALL, self.lot, (self.x,))
        part = (self.x,)
        self.assertEqual(kept, (row_of(self.trust, SMALL, part), lasts_of(self.trust, SMALL, part),
                                totals(self.trust, SMALL, part)))
        self.assertEqual(Plain(self.trust, SMALL).purses_behind(part), kept[2])


if __name__ == "__main__":
    unittest.main()
