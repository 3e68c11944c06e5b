"""[50]: what an end may lack by a shelf: just enough, and nothing too much."""

import random
import unittest

from pursesapart.disks import Disk
from pursesapart.errors import BadBank, BadEnd, BadShelf, BadTrust
from pursesapart.members import Member
from pursesapart.owners import Owner, may_lack
from pursesapart.shelves import taken_in
from pursesapart.trust import Trust
from pursesapart.votes import voters_of
from tests.helpers import BAD_BANKS, BAD_TRUSTS, LONG, SMALL, THREE, certificate, check_errors, paid, sealed_chain
from tests.test_shelves import bad_shelves
from tests.webs import grow_lot

BANK = ((9, 6, 3), 4, 1)
ENDS = [("owner", purse) for purse in range(3)] + [("member", number) for number in range(4)]
NO_ENDS = [
    None, True, 0, "owner", (), ("owner",), ("owner", 2), ("owner", -1), ("owner", True), ("owner", "0"), ("owner", None),
    ("member", 4), ("member", -1), ("member", False), ("member", LONG), ["owner", 0], ("owner", 0, 0), ("Owner", 0),
    ("name", 0), (0, "owner"), (("owner", 0),), {}, ("owner", (0,)), (None, 0), Trust(),
]


def plain_known(plain, shelf, end):
    """The payments that the end must know by the shelf."""
    known = set()
    for item in shelf:
        made = end[0] == "owner" and plain.place(item[0])[0] == end[1]
        if made or (end[0] == "member" and end[1] in voters_of(plain.trust, plain.bank, item)):
            known |= plain.below(item[0])
    return known


def shelf_of_lot(seed):
    """A plain view and a shelf of a lot of whatever shape, voters drawn as they fall."""
    dice = random.Random(seed)
    plain, lot = grow_lot(seed, BANK, 8)
    items = []
    for name in lot:
        plain.trust.seal(("owner", plain.place(name)[0]), name)
        items.append(certificate(plain.trust, dice.sample(range(4), 3), name))
    return plain, taken_in(plain.trust, BANK, (), items)


class Lack(unittest.TestCase):
    def test_example(self):
        trust = Trust()
        x = paid(trust, 0, 1, 1, 5, None, None)
        y = paid(trust, 1, 1, 0, 2, x, None)
        c, d = certificate(trust, (0, 2, 3), x), certificate(trust, (0, 1, 2), y)
        for end, told in [(("owner", 0), (c, d)), (("owner", 1), (d,)), (("member", 0), (d,)), (("member", 1), (d,)),
                          (("member", 2), (d,)), (("member", 3), (c, d))]:
            self.assertEqual(told, may_lack(trust, SMALL, (c, d), end))
            self.assertEqual((c,), may_lack(trust, SMALL, (c,), end))
            self.assertEqual((), may_lack(trust, SMALL, (), end))

    def test_against_the_words(self):
        for seed in range(60):
            plain, shelf = shelf_of_lot(seed)
            for end in ENDS:
                known = plain_known(plain, shelf, end)
                told = tuple(item for item in shelf if item[0] not in known)
                self.assertEqual(told, may_lack(plain.trust, BANK, shelf, end))

    def test_there_is_a_run_in_which_all_of_it_is_lacking(self):
        """The end does just what the shelf shows: it has booked what it must know, and nothing else."""
        for seed in range(60):
            plain, shelf = shelf_of_lot(seed)
            for end in ENDS:
                known = plain_known(plain, shelf, end)
                actor = self.actor(plain, shelf, end)
                self.assertEqual(known, {item[0] for item in actor.shelf()})
                self.check_enough(plain, shelf, end, actor)

    def actor(self, plain, shelf, end):
        """The end, that did what the shelf shows and heard only what was needed for it."""
        certificates = {item[0]: item for item in shelf}
        disk = Disk({}, None)
        if end[0] == "member":
            actor = Member(plain.trust, BANK, end[1], disk)
        else:
            actor = Owner(plain.trust, BANK, end[1], disk)
        for item in shelf:
            below = tuple(certificates[name] for name in sorted(plain.below(item[0])))
            if end[0] == "member" and end[1] in voters_of(plain.trust, BANK, item):
                answers = actor.hear((("owner", 0), end, ("ask", item[0], below)))
                self.assertEqual(1, len(answers))
                self.assertIn(answers[0][2][1], item[1])
            if end[0] == "owner" and plain.place(item[0])[0] == end[1]:
                actor.hear((("owner", 0), end, ("tell", below)))
                actor.pay(*plain.parts(item[0])[2:4])
                self.assertEqual(item[0], actor.asked())
        return actor

    def check_enough(self, plain, shelf, end, actor):
        """Behind hearing what it may lack it has all of the shelf."""
        actor.hear((("owner", 1), end, ("tell", may_lack(plain.trust, BANK, shelf, end))))
        self.assertEqual({item[0] for item in shelf}, {item[0] for item in actor.shelf()})

    def test_long_shelves(self):
        trust = Trust()
        names = sealed_chain(trust, SMALL, 400)
        shelf = tuple(certificate(trust, [(at + k) % 4 for k in range(3)], name) for at, name in enumerate(names))
        for end in [("owner", 0), ("owner", 1), ("member", 0), ("member", 3)]:
            self.assertIn(len(may_lack(trust, SMALL, shelf, end)), (1, 2))

    def test_errors(self):
        trust = Trust()
        x = paid(trust, 0, 1, 1, 5, None, None)
        y = paid(trust, 1, 1, 0, 2, x, None)
        good = (certificate(trust, (0, 1, 2), x), certificate(trust, (0, 1, 2), y))
        check_errors(self, may_lack, [
            ("trust", trust, BadTrust, BAD_TRUSTS), ("bank", SMALL, BadBank, BAD_BANKS),
            ("shelf", good, BadShelf, bad_shelves(trust, good)), ("end", ("owner", 1), BadEnd, NO_ENDS),
        ])
        self.assertEqual((), may_lack(trust, THREE, (), ("owner", 2)))


if __name__ == "__main__":
    unittest.main()
