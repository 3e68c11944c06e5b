"""[113]: who was first, told from what was done and what is seen."""

import random
import unittest
from itertools import product

from pursesapart.errors import BadBank, BadHands, BadPurse, BadWeaving, BadWishes, NotSettling
from pursesapart.firsts import blur, most_hands, settles, settling_wishes, views_in
from pursesapart.trust import Trust
from tests.helpers import BAD_BANKS, BAD_PURSES, LONG, SMALL, THREE, check_errors, odd_values

TWO = ((0, 1, 5), (0, 1, 4))
BAD_WISHES = [
    None, 0, True, "ab", (), [], {}, list(TWO), TWO[:1], TWO * 2 + TWO[:1], (TWO[0], list(TWO[1])), (TWO[0], TWO[1][:2]),
    (TWO[0], TWO[1] + (0,)), ((0, 1, 0), TWO[1]), ((0, 1, -1), TWO[1]), ((0, 1, True), TWO[1]), ((0, 1, LONG), TWO[1]),
    ((0, 2, 1), TWO[1]), ((2, 0, 1), TWO[1]), ((False, 1, 1), TWO[1]), ((0, True, 1), TWO[1]), ((-1, 1, 1), TWO[1]),
    ((0, None, 1), TWO[1]), ((0, 1, None), TWO[1]), ((0, 1, "1"), TWO[1]), (None, TWO[1]), (0, 1), ("abc", "abc"),
    ((0, 1, (1,)), TWO[1]), Trust(),
]


def plain_weavings(many):
    """All weavings, drawn out one place behind another."""
    rows = {()}
    for _ in range(2 * many):
        rows = {row + (hand,) for row in rows for hand in range(many) if row.count(hand) < 2}
    return sorted(rows)


WEAVINGS = {many: plain_weavings(many) for many in (2, 3, 4)}


def plain_views(bank, wishes, weaving):
    """The views, wish by wish."""
    purses, done, views = list(bank[0]), [None] * len(wishes), [None] * len(wishes)
    for at, hand in enumerate(weaving):
        purse, to, amount = wishes[hand]
        if hand in weaving[:at]:
            views[hand] = (done[hand], tuple(purses))
        elif purses[purse] >= amount:
            done[hand] = True
            purses[purse] -= amount
            purses[to] += amount
        else:
            done[hand] = False
    return tuple(views)


def plain_settles(bank, wishes):
    """Whether there are rules: no row of weavings with views alike leads from one hand's being first to another's."""
    told = {}

    def root(item):
        while told[item] != item:
            item = told[item]
        return item

    weavings = WEAVINGS[len(wishes)]
    for weaving in weavings:
        items = list(enumerate(plain_views(bank, wishes, weaving)))
        for item in items:
            told.setdefault(item, item)
        for item in items[1:]:
            told[root(item)] = root(items[0])
    firsts = {}
    for weaving in weavings:
        if weaving[0] == weaving[1]:
            firsts.setdefault(root((0, plain_views(bank, wishes, weaving)[0])), set()).add(weaving[0])
    return all(len(hands) == 1 for hands in firsts.values())


def all_wishes(bank, most):
    """All wishes of amounts up to the most."""
    purses = range(len(bank[0]))
    return list(product(purses, purses, range(1, most + 1)))


class Firsts(unittest.TestCase):
    def test_examples_by_hand(self):
        self.assertTrue(settles(SMALL, TWO))
        self.assertEqual(((True, (0, 5)), (False, (0, 5))), views_in(SMALL, TWO, (0, 1, 0, 1)))
        self.assertFalse(settles(SMALL, ((0, 1, 2), (0, 1, 3))))
        self.check_blur(SMALL, ((0, 1, 2), (0, 1, 3)))
        self.check_way(SMALL, ((0, 1, 2), (0, 1, 3)), [(0, 0, 1, 1), (0, 1, 0, 1), (1, 1, 0, 0)])
        self.assertEqual(3, most_hands(SMALL, 0))

    def check_blur(self, bank, wishes):
        """blur is None exactly if these settle; its neighbours have a view alike."""
        way = blur(bank, wishes)
        self.assertEqual(settles(bank, wishes), way is None)
        if way is not None:
            self.assertIs(list, type(way))
            self.check_way(bank, wishes, way)

    def check_way(self, bank, wishes, way):
        for weaving in way:
            self.assertIs(tuple, type(weaving))
            self.assertIn(weaving, WEAVINGS[len(wishes)])
        self.assertEqual(way[0][0], way[0][1])
        self.assertEqual(way[-1][0], way[-1][1])
        self.assertNotEqual(way[0][0], way[-1][0])
        for one, other in zip(way, way[1:]):
            pairs = list(zip(plain_views(bank, wishes, one), plain_views(bank, wishes, other)))
            self.assertTrue(any(view == second for view, second in pairs))

    def test_views(self):
        for bank, wishes in [(SMALL, TWO), (THREE, ((0, 2, 3), (0, 1, 3), (0, 0, 2))), (((2, 2), 4, 1), ((1, 0, 1),) * 4),
                             (SMALL, ((1, 0, 2), (0, 1, 2)))]:
            for weaving in WEAVINGS[len(wishes)]:
                self.assertEqual(plain_views(bank, wishes, weaving), views_in(bank, wishes, weaving))
        self.assertEqual((6, 90, 2520), tuple(len(WEAVINGS[many]) for many in (2, 3, 4)))

    def test_a_wish_to_the_own_purse(self):
        self.assertEqual(((True, (5, 0)), (True, (5, 0))), views_in(SMALL, ((0, 0, 5), (0, 0, 5)), (0, 1, 1, 0)))
        self.assertFalse(settles(SMALL, ((0, 0, 5), (0, 1, 5))))
        self.assertFalse(settles(((5,), 1, 0), ((0, 0, 5), (0, 0, 5))))

    def test_wishes_that_settle_and_do_not(self):
        for told, wishes in [
                (True, ((0, 1, 5), (0, 1, 5))), (True, ((0, 1, 3), (0, 1, 3))), (False, ((0, 1, 6), (0, 1, 5))),
                (False, ((0, 1, 6), (0, 1, 6))), (False, ((0, 1, 5), (1, 0, 5))), (False, ((1, 0, 1), (1, 0, 1))),
                (True, ((0, 1, 5), (0, 1, 4), (0, 1, 3))), (False, ((0, 1, 5), (0, 1, 4), (0, 1, 4))),
                (False, ((0, 1, 5), (0, 1, 4), (0, 1, 1))), (False, ((0, 1, 5), (0, 1, 4), (0, 1, 3), (0, 1, 2)))]:
            self.assertIs(told, settles(SMALL, wishes), wishes)
            self.check_blur(SMALL, wishes)
        self.assertTrue(settles(THREE, ((0, 1, 3), (0, 2, 3), (0, 1, 4), (0, 2, 4))))
        self.assertFalse(settles(THREE, ((0, 1, 3), (0, 2, 3), (0, 1, 4), (0, 2, 3))))

    def test_two_and_three_hands_against_all_weavings(self):
        counts = {}
        for bank in [((0,), 1, 0), ((3,), 1, 0), ((0, 2), 4, 1), ((2, 1), 4, 1), ((4, 0), 4, 1), ((1, 0, 1), 4, 1)]:
            for wishes in product(all_wishes(bank, max(bank[0]) + 1), repeat=2):
                self.check_settles(bank, wishes, counts)
        for bank in [((3, 0), 4, 1), ((4, 1), 4, 1), ((2, 0, 0), 4, 1)]:
            every = [wish for wish in all_wishes(bank, max(bank[0]) + 1) if wish[0] < 2]
            dice = random.Random(3)
            for wishes in dice.sample(list(product(every, repeat=3)), 250):
                self.check_settles(bank, wishes, counts)
            for wishes in product([wish for wish in every if wish[0] == 0 and wish[1] > 0], repeat=3):
                self.check_settles(bank, wishes, counts)
        self.assertGreater(min(counts.values()), 15, counts)
        self.assertEqual({(2, True), (2, False), (3, True), (3, False)}, set(counts))

    def check_settles(self, bank, wishes, counts):
        told = plain_settles(bank, wishes)
        self.assertIs(told, settles(bank, wishes), (bank, wishes))
        self.check_blur(bank, wishes)
        counts[len(wishes), told] = counts.get((len(wishes), told), 0) + 1

    def test_four_hands_against_all_weavings(self):
        counts = {}
        good = ((0, 1, 3), (0, 2, 3), (0, 1, 4), (0, 2, 4))
        rows = [good, good[::-1], good[:3] + ((0, 2, 3),), good[:3] + ((0, 2, 2),), good[:3] + ((0, 0, 3),),
                good[:3] + ((1, 2, 3),), good[:3] + ((0, 2, 6),), good[:3] + ((0, 1, 4),), ((0, 1, 5),) * 4,
                good[:3] + ((0, 2, 5),), good[:2] + ((0, 2, 5), (0, 1, 5)), ((1, 0, 1),) * 4, good[:3] + ((1, 1, 1),)]
        for wishes in rows:
            self.check_settles(THREE, wishes, counts)
        self.check_settles(((4, 0, 0), 4, 1), ((0, 1, 2), (0, 2, 3), (0, 1, 4), (0, 2, 4)), counts)
        self.check_settles(((4, 0, 0), 4, 1), ((0, 1, 2), (0, 2, 2), (0, 1, 4), (0, 2, 4)), counts)
        self.assertGreater(min(counts.values()), 3, counts)

    def test_most_hands_by_looking_for_wishes(self):
        """The most wishes no two of which can be done, and no two of which, of three or more, leave the same."""
        for others in (1, 2, 3):
            for held in range(1, 6):
                bank = ((held,) + (0,) * others, 4, 1)
                self.assertEqual(self.most_found(held, others), most_hands(bank, 0))
                self.assertEqual(0, most_hands(bank, 1))
        self.assertEqual(0, most_hands(((9,), 1, 0), 0))

    def most_found(self, held, others):
        wishes = [(to, amount) for to in range(others) for amount in range(1, held + 1)]
        best = 2
        rows = [()]
        for wish in wishes:
            rows += [row + (wish,) for row in rows if all(wish[1] + other[1] > held for other in row)]
            rows = sorted(rows, key=len)[-2000:] + [()]
        for row in rows:
            best = max(best, len(row))
        return best

    def test_great_amounts(self):
        most = LONG - 1
        self.assertEqual(most - most // 2, most_hands(((most, 0), 4, 1), 0))
        self.assertEqual(7 * (most - most // 2), most_hands(((most,) + (0,) * 7, 4, 1), 0))
        self.assertEqual((most - 1) // 2 + 1, most_hands(((most - 1, 1), 4, 1), 0))
        self.assertEqual(2, most_hands(((most - 1, 1), 4, 1), 1))
        self.assertEqual(7, most_hands(((1,) + (0,) * 7, 4, 1), 0))
        with self.assertRaises(BadBank):
            most_hands(((LONG, 0), 4, 1), 0)
        for many in (2, 3, 4):
            self.assertTrue(settles(((most, 0), 4, 1), settling_wishes(((most, 0), 4, 1), 0, many)))

    def test_settling_wishes(self):
        for purses in (1, 2, 3, 4, 8):
            for held in range(12):
                for purse in (0, purses - 1):
                    begin = [1] * purses
                    begin[purse] = held
                    bank = (tuple(begin), 4, 1)
                    most = most_hands(bank, purse)
                    for many in (2, 3, 4):
                        self.check_settling(bank, purse, many, most)

    def check_settling(self, bank, purse, many, most):
        if many > most:
            with self.assertRaises(NotSettling) as caught:
                settling_wishes(bank, purse, many)
            self.assertEqual(most, caught.exception.most)
            return
        wishes = settling_wishes(bank, purse, many)
        self.assertEqual((tuple, many), (type(wishes), len(wishes)))
        self.assertTrue(settles(bank, wishes), (bank, wishes))
        self.assertTrue(all(wish[0] == purse for wish in wishes))
        if many < 4:
            self.assertTrue(plain_settles(bank, wishes))

    def test_more_hands_than_most_never_settle(self):
        for held in (1, 2, 3, 4):
            bank = ((held, 0), 4, 1)
            for many in (3, 4):
                every = [wish for wish in all_wishes(bank, held) if wish[0] == 0]
                found = any(settles(bank, wishes) for wishes in product(every, repeat=many))
                self.assertEqual(many <= most_hands(bank, 0), found)

    def test_errors(self):
        bank = ("bank", SMALL, BadBank, BAD_BANKS)
        wishes = ("wishes", TWO, BadWishes, BAD_WISHES + odd_values())
        weavings = odd_values() + [(0, 1), (0, 1, 0), (0, 1, 0, 0), (0, 1, 0, 1, 0), (0, 2, 0, 2), [0, 1, 0, 1],
                                   (False, 1, 0, 1), (0, True, 0, 1), (0, 1, 0, None), (0, 1, 0, -1), "0101", ((0,), 1, 0, 1),
                                   (0, 1, 2, 0, 1, 2)]
        check_errors(self, views_in, [bank, wishes, ("weaving", (0, 1, 1, 0), BadWeaving, weavings)])
        check_errors(self, settles, [bank, wishes])
        check_errors(self, blur, [bank, wishes])
        purse = ("purse", 0, BadPurse, BAD_PURSES)
        check_errors(self, most_hands, [bank, purse])
        bad_hands = [0, 1, 5, -1, True, None, "2", (2,), LONG]
        check_errors(self, settling_wishes, [bank, purse, ("many", 3, BadHands, bad_hands)])
        for many in bad_hands:
            with self.assertRaises(BadHands):
                settling_wishes(SMALL, 1, many)


if __name__ == "__main__":
    unittest.main()
