"""[2], the interface: the errors of the package."""

import inspect
import unittest

from pursesapart import errors

PLAIN = """BadAct BadAgreed BadAmount BadBank BadBook BadBooks BadCell BadCells BadCertificate BadCertificates
BadCharter BadCheats BadContent BadDisk BadEnd BadFrame BadFuse BadHands BadKept BadLeast BadLetter BadLiars BadLot
BadMany BadMember BadMembers BadName BadNumber BadOwner BadOwners BadPaper BadPart BadPayment BadPayments BadPicks
BadPlan BadProposer BadProposers BadPurse BadPurses BadRow BadRule BadRun BadSequence BadShelf BadSplit BadSteps
BadTimes BadTrust BadVote BadVotes BadWeaving BadWeb BadWho BadWishes Busy Empty Fell FewLie Gone NoClash NotGone
NotHere NotRight TooMany""".split()
TELLING = {
    "BadText": ("line",), "Clash": ("one", "other"), "MoreLie": ("liars",), "NotSettling": ("most",),
    "Poor": ("has",), "StillHeld": ("holder",),
}


class Errors(unittest.TestCase):
    def test_each_is_directly_below_purse_error(self):
        for name in [*PLAIN, *TELLING]:
            with self.subTest(name=name):
                found = getattr(errors, name)
                self.assertEqual((errors.PurseError,), found.__bases__)
                self.assertTrue(issubclass(found, ValueError))
                self.assertEqual("pursesapart.errors", found.__module__)
        self.assertEqual((ValueError,), errors.PurseError.__bases__)

    def test_there_are_no_others(self):
        found = [name for name, value in vars(errors).items() if inspect.isclass(value)]
        self.assertEqual(sorted([*PLAIN, *TELLING, "PurseError"]), sorted(found))

    def test_plain_ones_are_made_of_any_text(self):
        for name in PLAIN:
            with self.subTest(name=name):
                with self.assertRaises(errors.PurseError) as caught:
                    raise getattr(errors, name)("any text")
                self.assertEqual("any text", str(caught.exception))
                self.assertIsInstance(getattr(errors, name)(), ValueError)

    def test_attributes_by_position_and_by_name(self):
        for name, fields in TELLING.items():
            values = [("told", at) for at in range(len(fields))]
            with self.subTest(name=name):
                kind = getattr(errors, name)
                for error in (kind(*values), kind(**dict(zip(fields, values)))):
                    self.assertIsInstance(error, errors.PurseError)
                    self.assertEqual(values, [getattr(error, field) for field in fields])
                with self.assertRaises(TypeError):
                    kind()


if __name__ == "__main__":
    unittest.main()
