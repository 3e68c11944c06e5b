"""[40]: letters, looked at by their form alone."""

import unittest

from pursesapart.errors import BadBank
from pursesapart.letters import is_letter
from tests.helpers import BAD_BANKS, LONG, SMALL, check_errors, odd_values

OWNERS = [("owner", 0), ("owner", 1)]
MEMBERS = [("member", 0), ("member", 3)]
N = ("name", 0)
M = ("name", LONG - 1)
CERTIFICATES = [
    (), ((N, ()),), ((N, (N,)),), ((M, (N, M)), (M, (N, M))), ((N, (("name", 1), ("name", 2), ("name", 30))), (N, (M,))),
]
ASKS = [("ask", name, told) for name in (N, M) for told in CERTIFICATES]
VOTES = [("vote", name) for name in (N, M)]
TELLS = [("tell", told) for told in CERTIFICATES]
WANTS = [("want", row) for row in ((0, 0), (1, 7), (LONG - 1, 0))]
NO_NAMES = [
    None, 0, "name", (), ("name",), ("name", -1), ("name", True), ("name", False), ("name", "0"), ("name", None),
    ("name", LONG), ("name", 0, 0), ["name", 0], ("Name", 0), (0, "name"), ("name", (0,)), (N,), True, {},
]
NO_CERTIFICATES = [
    None, True, 0, "name", [], {}, [(N, ())], (N,), N, ((N,),), ((N, (), ()),), ([N, ()],), ((N, []),), ((N, [N]),),
    ((N, None),), ((N, N),), ((N, (N, N)),), ((N, (M, N)),), ((N, (N, M, M)),), ((N, (None,)),), ((None, ()),),
    (((), N),), ((N, ()), None), ((N, (N, ("name", True))),), ((N, (("name", False), M)),), ((N, (N, ("name", LONG))),),
    ((("name", -1), ()),), ((("name", True), ()),), ((N, ((N,),)),), ((N, (["name", 0],)),), ((N, (N, 0)),),
]
NO_ROWS = [
    None, True, 0, (), (0,), (0, 0, 0), [0, 0], (0, -1), (True, 0), (0, False), (0, None), ("0", 0), (LONG, 0), ((0, 0),),
    (0, (0,)), {0: 0, 1: 0}, N,
]
NO_ENDS = [
    None, True, 0, "owner", (), ("owner",), ("owner", 2), ("owner", -1), ("owner", True), ("owner", False), ("owner", "0"),
    ("owner", None), ("member", 4), ("member", -1), ("member", True), ("member", LONG), ["owner", 0], ["member", 0],
    ("owner", 0, 0), ("Owner", 0), ("name", 0), (0, "owner"), (("owner", 0),), {}, ("owner", (0,)), (None, 0),
]
NO_BODIES = [
    None, True, 0, "ask", (), ("ask",), ("ask", N), ("ask", N, (), ()), ["ask", N, ()], ("Ask", N, ()), (None, N, ()),
    ("vote",), ("vote", N, N), ["vote", N], ("tell",), ("tell", (), ()), ["tell", ()], ("want",), ("want", (0, 0), 0),
    ["want", (0, 0)], ("wants", (0, 0)), ("votes", N), ("tells", ()), (N, "vote"), ((), "tell"), ("vote", N, ()),
    ("tell", N, ()), ("want", N, ()), ("ask", ()), ("ask", (0, 0)), {}, ("told", ()), (0, (0, 0)), (["tell"], ()),
]


class Letters(unittest.TestCase):
    def check(self, told, sender, receiver, body):
        """Whether these three make a letter."""
        with self.subTest(sender=sender, receiver=receiver, body=body):
            self.assertIs(told, is_letter(SMALL, (sender, receiver, body)))

    def test_all_four_kinds_in_each_direction(self):
        for sender in OWNERS + MEMBERS:
            for receiver in OWNERS + MEMBERS:
                for body in ASKS:
                    self.check(sender in OWNERS and receiver in MEMBERS, sender, receiver, body)
                for body in VOTES:
                    self.check(sender in MEMBERS and receiver in OWNERS, sender, receiver, body)
                for body in TELLS + WANTS:
                    self.check(True, sender, receiver, body)

    def test_each_place_bent(self):
        owner, member = OWNERS[0], MEMBERS[0]
        for bent in NO_NAMES:
            self.check(False, owner, member, ("ask", bent, ()))
            self.check(False, member, owner, ("vote", bent))
        for bent in NO_CERTIFICATES:
            self.check(False, owner, member, ("ask", N, bent))
            self.check(False, owner, owner, ("tell", bent))
            self.check(False, member, member, ("tell", bent))
        for bent in NO_ROWS:
            self.check(False, owner, member, ("want", bent))
        for sender, receiver in ((owner, member), (member, owner), (owner, owner), (member, member)):
            for bent in NO_BODIES + odd_values():
                self.check(False, sender, receiver, bent)

    def test_ends_bent(self):
        for bent in NO_ENDS + odd_values():
            for body in (("tell", ()), ("want", (0, 0)), ("ask", N, ()), ("vote", N)):
                self.check(False, bent, MEMBERS[0], body)
                self.check(False, OWNERS[0], bent, body)

    def test_any_value(self):
        whole = (OWNERS[0], MEMBERS[0], ("tell", ()))
        self.assertTrue(is_letter(SMALL, whole))
        for value in odd_values() + [(), list(whole), whole[:2], whole + (0,), whole[::-1], (whole,), {whole: True}]:
            with self.subTest(value=value):
                self.assertIs(False, is_letter(SMALL, value))

    def test_ends_and_rows_hang_on_the_bank(self):
        eight = ((1,) * 8, 13, 4)
        self.assertTrue(is_letter(eight, (("owner", 7), ("member", 12), ("want", (0,) * 8))))
        self.assertFalse(is_letter(eight, (("owner", 8), ("member", 12), ("want", (0,) * 8))))
        self.assertFalse(is_letter(eight, (("owner", 7), ("member", 13), ("want", (0,) * 8))))
        self.assertFalse(is_letter(eight, (("owner", 7), ("member", 12), ("want", (0,) * 7))))
        one = ((1,), 1, 0)
        self.assertTrue(is_letter(one, (("owner", 0), ("member", 0), ("ask", N, ()))))
        self.assertFalse(is_letter(one, (("owner", 1), ("member", 0), ("ask", N, ()))))
        self.assertFalse(is_letter(one, (("owner", 0), ("member", 1), ("ask", N, ()))))

    def test_errors(self):
        check_errors(self, is_letter, [("bank", SMALL, BadBank, BAD_BANKS), ("value", None, None, [])])


if __name__ == "__main__":
    unittest.main()
