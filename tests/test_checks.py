"""[3], [4], [5]: numbers, banks, and how many votes are wanted."""

import unittest

from pursesapart import checks
from pursesapart.errors import BadBank
from tests.helpers import BAD_BANKS, LONG, SMALL, check_errors, odd_values

GOOD_BANKS = [
    SMALL, ((0,), 1, 0), ((1,) * 8, 13, 4), ((LONG - 1,), 13, 0), ((LONG - 2, 1), 7, 2), ((0, 0), 2, 0),
    ((0, LONG - 1), 10, 3), ((5, 0), 5, 1), ((5, 0), 13, 1), ((3, 3, 3), 12, 3),
]


class Banks(unittest.TestCase):
    def test_banks(self):
        for bank in GOOD_BANKS:
            with self.subTest(bank=bank):
                self.assertIs(True, checks.is_bank(bank))

    def test_no_banks(self):
        for bank in BAD_BANKS + odd_values():
            with self.subTest(bank=bank):
                self.assertIs(False, checks.is_bank(bank))

    def test_from_one_to_eight_purses(self):
        for many in range(11):
            self.assertEqual(1 <= many <= 8, checks.is_bank(((1,) * many, 4, 1)))

    def test_members_and_lies(self):
        for members in range(-1, 16):
            for lies in range(-1, 6):
                wanted = lies >= 0 and 1 <= members <= 13 and members > 3 * lies
                self.assertEqual(wanted, checks.is_bank(((5, 0), members, lies)), (members, lies))

    def test_sum_of_begin_has_eighteen_digits(self):
        self.assertTrue(checks.is_bank(((LONG - 3, 1, 1), 4, 1)))
        self.assertFalse(checks.is_bank(((LONG - 3, 1, 2), 4, 1)))

    def test_called_by_name(self):
        self.assertTrue(checks.is_bank(value=SMALL))


class Need(unittest.TestCase):
    def test_members_less_lies(self):
        for bank in GOOD_BANKS:
            self.assertEqual(bank[1] - bank[2], checks.need_of(bank))
        self.assertEqual(3, checks.need_of(bank=SMALL))

    def test_bad_bank(self):
        check_errors(self, checks.need_of, [("bank", SMALL, BadBank, BAD_BANKS)])

    def test_two_needs_have_more_than_lies_in_common(self):
        for bank in GOOD_BANKS:
            _, members, lies = bank
            common = 2 * checks.need_of(bank) - members
            self.assertEqual(members - 2 * lies, common)
            self.assertGreaterEqual(common, lies + 1)


if __name__ == "__main__":
    unittest.main()
