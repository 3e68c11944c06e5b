"""[20], [21]: outer form, past, form, what is found, and what is right."""

import unittest

from pursesapart import payments
from pursesapart.errors import BadBank, BadPayment, BadTrust
from pursesapart.trust import Trust
from tests.helpers import BAD_BANKS, BAD_TRUSTS, LONG, SMALL, THREE, chain, check_errors, odd_values, pay, vote
from tests.plain import Plain

ASKED = (payments.has_outer_form, payments.has_form, payments.is_right)
TOLD = (payments.payment_of, payments.past_of, payments.held_ahead, payments.fault_of)


def outer_contents(first):
    """Contents of the outer form in the bank SMALL, first being a name that was given."""
    return [
        ("pay", 0, 1, 1, 5, (None, None)), ("pay", 1, 1, 1, 5, (None, None)), ("pay", 1, LONG - 1, 0, LONG - 1, (None, None)),
        ("pay", 0, 2, 1, 1, (first, None)), ("pay", 0, 2, 1, 1, (first, first)), ("pay", 1, 7, 0, 9, (None, first)),
    ]


def other_contents(first):
    """Contents that lack the outer form in the bank SMALL."""
    return [
        0, "pay", None, (), ("pay",), first, (first,), ("pay", 0, 1, 1, 5), ("pay", 0, 1, 1, 5, (None, None), None),
        ("pays", 0, 1, 1, 5, (None, None)), (0, 0, 1, 1, 5, (None, None)), (None, 0, 1, 1, 5, (None, None)),
        ("pay", -1, 1, 1, 5, (None, None)), ("pay", 2, 1, 1, 5, (None, None)), ("pay", "0", 1, 1, 5, (None, None)),
        ("pay", None, 1, 1, 5, (None, None)), ("pay", 0, 0, 1, 5, (None, None)), ("pay", 0, -1, 1, 5, (None, None)),
        ("pay", 0, None, 1, 5, (None, None)), ("pay", 0, "1", 1, 5, (None, None)), ("pay", 0, 1, 2, 5, (None, None)),
        ("pay", 0, 1, -1, 5, (None, None)), ("pay", 0, 1, None, 5, (None, None)), ("pay", 0, 1, 1, 0, (None, None)),
        ("pay", 0, 1, 1, -5, (None, None)), ("pay", 0, 1, 1, "5", (None, None)), ("pay", 0, 1, 1, None, (None, None)),
        ("pay", 0, 1, 1, 5, ()), ("pay", 0, 1, 1, 5, (None,)), ("pay", 0, 1, 1, 5, (None, None, None)),
        ("pay", 0, 1, 1, 5, None), ("pay", 0, 1, 1, 5, first), ("pay", 0, 1, 1, 5, ("name", -1)),
        ("pay", 0, 1, 1, 5, (0, None)), ("pay", 0, 1, 1, 5, (None, 0)), ("pay", 0, 1, 1, 5, (None, ())),
        ("pay", 0, 1, 1, 5, ("x", None)), ("pay", 0, 1, 1, 5, (None, ("name", -1))), ("pay", (0,), 1, 1, 5, (None, None)),
        ("pay", 0, (1,), 1, 5, (None, None)), ("pay", 0, 1, first, 5, (None, None)), ("pay", 0, 1, 1, (5,), (None, None)),
        ("vote", 0, first), (("pay", 0, 1, 1, 5, (None, None)),),
    ]


class OuterForm(unittest.TestCase):
    def setUp(self):
        self.trust = Trust()
        self.first = self.trust.name(("pay", 0, 1, 1, 2, (None, None)))

    def test_contents_of_the_outer_form(self):
        for content in outer_contents(self.first):
            name = self.trust.name(content)
            with self.subTest(content=content):
                self.assertIs(True, payments.has_outer_form(self.trust, SMALL, name))
                self.assertEqual(content[1:], payments.payment_of(self.trust, SMALL, name))

    def test_contents_without_it(self):
        for content in other_contents(self.first):
            name = self.trust.name(content)
            with self.subTest(content=content):
                for function in ASKED:
                    self.assertIs(False, function(self.trust, SMALL, name))
                for function in TOLD:
                    with self.assertRaises(BadPayment):
                        function(self.trust, SMALL, name)

    def test_any_value(self):
        for value in odd_values() + [(), [self.first], (self.first,), list(self.first)]:
            with self.subTest(value=value):
                for function in ASKED:
                    self.assertIs(False, function(self.trust, SMALL, value))

    def test_errors_in_sequence(self):
        bad = odd_values() + [(), [self.first], list(self.first), self.trust.name("junk")]
        for function in TOLD:
            check_errors(self, function, [
                ("trust", self.trust, BadTrust, BAD_TRUSTS), ("bank", SMALL, BadBank, BAD_BANKS),
                ("payment", self.first, BadPayment, bad)])
        for function in ASKED:
            check_errors(self, function, [
                ("trust", self.trust, BadTrust, BAD_TRUSTS), ("bank", SMALL, BadBank, BAD_BANKS),
                ("payment", self.first, None, [])])

    def test_a_name_that_is_given_later(self):
        value = ("name", self.trust.size())
        for function in ASKED:
            self.assertIs(False, function(self.trust, SMALL, value))
        self.assertEqual(value, pay(self.trust, 1, 1, 0, 2, self.first, None))
        for function in ASKED:
            self.assertIs(True, function(self.trust, SMALL, value))

    def test_one_trust_and_several_banks(self):
        three = pay(self.trust, 0, 1, 2, 5, None, None, None)
        for _ in range(2):
            self.assertTrue(payments.has_outer_form(self.trust, SMALL, self.first))
            self.assertFalse(payments.has_outer_form(self.trust, THREE, self.first))
            self.assertFalse(payments.has_outer_form(self.trust, SMALL, three))
            self.assertTrue(payments.has_outer_form(self.trust, THREE, three))

    def test_one_and_eight_purses(self):
        one = pay(self.trust, 0, 1, 0, 3, None)
        eight = pay(self.trust, 7, 1, 0, 3, *[None] * 8)
        self.assertTrue(payments.is_right(self.trust, ((3,), 1, 0), one))
        self.assertFalse(payments.is_right(self.trust, ((2,), 1, 0), one))
        self.assertTrue(payments.is_right(self.trust, ((0,) * 7 + (3,), 13, 4), eight))
        self.assertFalse(payments.is_right(self.trust, ((3,) * 7 + (2,), 13, 4), eight))
        self.assertFalse(payments.has_outer_form(self.trust, ((3,), 1, 0), eight))


class Past(unittest.TestCase):
    def setUp(self):
        self.trust = Trust()

    def test_itself_and_its_causes_and_theirs(self):
        x = pay(self.trust, 0, 1, 1, 2, None, None)
        self.trust.name("between")
        y = pay(self.trust, 1, 1, 0, 1, x, None)
        z = pay(self.trust, 0, 2, 1, 1, x, y)
        pay(self.trust, 0, 3, 1, 1, z, y)
        self.assertEqual((x,), payments.past_of(self.trust, SMALL, x))
        self.assertEqual((x, y), payments.past_of(self.trust, SMALL, y))
        self.assertEqual((x, y, z), payments.past_of(self.trust, SMALL, z))

    def test_a_cause_without_the_outer_form_leads_no_further(self):
        x = pay(self.trust, 0, 1, 1, 2, None, None)
        junk = self.trust.name(("junk", x))
        bent = pay(self.trust, 0, 1, 1, 0, x, None)
        y = pay(self.trust, 1, 1, 0, 1, junk, bent)
        z = pay(self.trust, 1, 2, 0, 1, None, y)
        self.assertEqual((junk, bent, y), payments.past_of(self.trust, SMALL, y))
        self.assertEqual((junk, bent, y, z), payments.past_of(self.trust, SMALL, z))

    def test_pasts_hang_on_the_bank(self):
        wide = pay(self.trust, 0, 1, 1, 2, None, None, None)
        x = pay(self.trust, 0, 1, 1, 2, None, None)
        y = pay(self.trust, 0, 2, 1, 2, wide, x)
        z = pay(self.trust, 0, 2, 1, 2, y, None, None)
        self.assertEqual((wide, x, y), payments.past_of(self.trust, SMALL, y))
        self.assertEqual((y, z), payments.past_of(self.trust, THREE, z))
        self.assertEqual((wide,), payments.past_of(self.trust, THREE, wide))

    def test_four_hundred_each_above_all_others(self):
        for purses in (1, 2, 8):
            trust = Trust()
            bank = ((60,) * purses, 4, 1)
            names = chain(trust, bank, 400)
            self.assertEqual(tuple(names), payments.past_of(trust, bank, names[-1]))
            self.assertTrue(payments.has_form(trust, bank, names[-1]))
            self.assertTrue(payments.is_right(trust, bank, names[-1]))
            self.assertIsNone(payments.fault_of(trust, bank, names[-1]))
            self.assertEqual(tuple(names[:200]), payments.past_of(trust, bank, names[199]))


class Right(unittest.TestCase):
    def setUp(self):
        self.trust = Trust()

    def test_example_by_hand(self):
        x = pay(self.trust, 0, 1, 1, 4, None, None, None)
        y = pay(self.trust, 1, 1, 2, 3, x, None, None)
        z = pay(self.trust, 2, 1, 2, 4, x, None, None)
        self.assertEqual([5, 4, 0], [payments.held_ahead(self.trust, THREE, name) for name in (x, y, z)])
        self.assertEqual([True] * 3, [payments.has_form(self.trust, THREE, name) for name in (x, y, z)])
        self.assertEqual([True, True, False], [payments.is_right(self.trust, THREE, name) for name in (x, y, z)])
        self.assertEqual(("amount", z, 0), payments.fault_of(self.trust, THREE, z))

    def test_just_covered_and_one_more(self):
        self.assertTrue(payments.is_right(self.trust, SMALL, pay(self.trust, 0, 1, 1, 5, None, None)))
        six = pay(self.trust, 0, 1, 1, 6, None, None)
        self.assertFalse(payments.is_right(self.trust, SMALL, six))
        self.assertTrue(payments.has_form(self.trust, SMALL, six))
        self.assertEqual(("amount", six, 5), payments.fault_of(self.trust, SMALL, six))

    def test_to_the_own_purse(self):
        x = pay(self.trust, 0, 1, 0, 5, None, None)
        y = pay(self.trust, 0, 2, 0, 5, x, None)
        z = pay(self.trust, 0, 3, 0, 6, y, None)
        self.assertEqual([5, 5, 5], [payments.held_ahead(self.trust, SMALL, name) for name in (x, y, z)])
        self.assertTrue(payments.is_right(self.trust, SMALL, y))
        self.assertEqual(("amount", z, 5), payments.fault_of(self.trust, SMALL, z))

    def test_what_is_found_may_be_below_nothing(self):
        x = pay(self.trust, 0, 1, 1, 9, None, None)
        y = pay(self.trust, 0, 2, 1, 1, x, None)
        z = pay(self.trust, 1, 1, 0, 2, x, None)
        self.assertEqual([5, -4, 9], [payments.held_ahead(self.trust, SMALL, name) for name in (x, y, z)])
        self.assertTrue(payments.has_form(self.trust, SMALL, z))
        self.assertFalse(payments.is_right(self.trust, SMALL, z))
        for name in (x, y, z):
            self.assertEqual(("amount", x, 5), payments.fault_of(self.trust, SMALL, name))

    def test_sums_may_have_more_digits(self):
        bank = ((LONG - 1, 0), 4, 1)
        x = pay(self.trust, 1, 1, 0, LONG - 1, None, None)
        y = pay(self.trust, 1, 2, 0, LONG - 1, None, x)
        z = pay(self.trust, 0, 1, 1, LONG - 1, None, y)
        self.assertEqual(-(LONG - 1), payments.held_ahead(self.trust, bank, y))
        self.assertEqual(3 * (LONG - 1), payments.held_ahead(self.trust, bank, z))

    def test_held_ahead_wants_the_form(self):
        x = pay(self.trust, 0, 2, 1, 1, None, None)
        y = pay(self.trust, 1, 1, 1, 1, x, None)
        for name in (x, y):
            self.assertTrue(payments.has_outer_form(self.trust, SMALL, name))
            with self.assertRaises(BadPayment):
                payments.held_ahead(self.trust, SMALL, name)

    def test_one_bank_says_nothing_about_another(self):
        x = pay(self.trust, 0, 1, 1, 5, None, None)
        y = pay(self.trust, 1, 1, 0, 7, x, None)
        poor, rich = ((4, 0), 4, 1), ((5, 2), 4, 1)
        for _ in range(2):
            for bank, fault in ((SMALL, ("amount", y, 5)), (poor, ("amount", x, 4)), (rich, None)):
                self.assertEqual(fault, payments.fault_of(self.trust, bank, y))
                self.assertEqual(fault is None, payments.is_right(self.trust, bank, y))
        self.assertEqual(5, payments.held_ahead(self.trust, SMALL, y))
        self.assertEqual(7, payments.held_ahead(self.trust, rich, y))

    def test_seals_play_no_part(self):
        x = pay(self.trust, 0, 1, 1, 5, None, None)
        y = pay(self.trust, 0, 1, 1, 6, None, None)
        for _ in range(2):
            self.assertTrue(payments.is_right(self.trust, SMALL, x))
            self.assertFalse(payments.is_right(self.trust, SMALL, y))
            self.trust.seal(("owner", 0), x)
            self.trust.seal(("owner", 0), y)

    def test_a_payment_is_right_though_another_clashes_with_it(self):
        x = pay(self.trust, 0, 1, 1, 5, None, None)
        y = pay(self.trust, 0, 1, 1, 4, None, None)
        self.assertTrue(payments.is_right(self.trust, SMALL, x))
        self.assertTrue(payments.is_right(self.trust, SMALL, y))

    def test_what_is_told_stays(self):
        x = pay(self.trust, 0, 1, 1, 5, None, None)
        y = pay(self.trust, 1, 1, 0, 2, x, None)
        z = pay(self.trust, 1, 1, 0, 6, x, None)
        bent = pay(self.trust, 0, 1, 1, 1, x, None)
        told = self.all_told((x, y, z, bent))
        for at in range(20):
            more = pay(self.trust, 0, 1, at % 2, 1 + at, None, None)
            vote(self.trust, at % 4, more)
            self.trust.seal(("owner", 0), more)
            pay(self.trust, 0, 2, 1, 1 + at, more, y)
            self.assertEqual(told, self.all_told((x, y, z, bent)))

    def all_told(self, names):
        """All that is told of these names in two banks."""
        told = []
        for name in names:
            for bank in (SMALL, ((9, 9), 7, 2)):
                told += [function(self.trust, bank, name) for function in (*ASKED, *TOLD[:2], payments.fault_of)]
        return told

    def test_form_and_right_hang_on_the_whole_past(self):
        poor = pay(self.trust, 0, 1, 1, 6, None, None)
        above = pay(self.trust, 1, 1, 0, 1, poor, None)
        higher = pay(self.trust, 1, 2, 0, 1, poor, above)
        bent = pay(self.trust, 1, 2, 0, 1, None, None)
        over = pay(self.trust, 0, 1, 0, 1, None, bent)
        self.assertTrue(payments.has_form(self.trust, SMALL, higher))
        self.assertFalse(payments.is_right(self.trust, SMALL, higher))
        self.assertFalse(payments.has_form(self.trust, SMALL, over))
        self.assertFalse(payments.is_right(self.trust, SMALL, over))

    def test_lesser_fault_of_amount_hides_no_lack_of_form(self):
        poor = pay(self.trust, 0, 1, 1, 6, None, None)
        bent = pay(self.trust, 1, 2, 0, 1, None, None)
        both = pay(self.trust, 1, 3, 0, 1, poor, bent)
        self.assertEqual(("amount", poor, 5), payments.fault_of(self.trust, SMALL, both))
        self.assertFalse(payments.has_form(self.trust, SMALL, both))

    def test_plain_view_agrees_on_the_example(self):
        x = pay(self.trust, 0, 1, 1, 4, None, None, None)
        plain = Plain(self.trust, THREE)
        self.assertEqual({x}, plain.past(x))
        self.assertIsNone(plain.fault(x))


if __name__ == "__main__":
    unittest.main()
