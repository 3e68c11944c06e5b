"""[10]: names and seals."""

import unittest

from pursesapart.errors import BadContent, BadName, BadWho
from pursesapart.trust import Trust
from tests.helpers import LONG, check_raises, nested


def deep(value, depth):
    """The value within so many tuples."""
    for _ in range(depth):
        value = (value,)
    return value


class Names(unittest.TestCase):
    def setUp(self):
        self.trust = Trust()

    def test_new_contents_are_numbered(self):
        self.assertEqual(0, self.trust.size())
        for at, content in enumerate(["a", 5, -5, None, (), ("a",), ((),), ("name",), ("name", 0)]):
            self.assertEqual(("name", at), self.trust.name(content))
            self.assertEqual(at + 1, self.trust.size())
            self.assertEqual(content, self.trust.content(("name", at)))

    def test_the_same_content_has_the_same_name(self):
        first = self.trust.name(("pay", 0, (None, ("x", -1))))
        self.trust.name("between")
        self.assertEqual(first, self.trust.name(("pay", 0, (None, ("x", -1)))))
        self.assertEqual(2, self.trust.size())

    def test_unlike_contents_have_unlike_names(self):
        self.trust.name("first")
        contents = [
            0, 1, -1, "", "0", "1", None, "None", (), ((),), ((), ()), (0,), (1,), ("1",), (None,), ("",), (0, 1),
            (1, 0), ((0, 1),), ((0,), 1), (0, (1,)), ("name", 0), ("name", 0, 0), ("name", "0"), (("name", 0),),
            ("tuple", 0), ("tuple", 1), ("tuple", 2), (("tuple", 0),), (("tuple", 1), 0), "tuple",
        ]
        names = [self.trust.name(content) for content in contents]
        self.assertEqual([("name", at + 1) for at in range(len(contents))], names)
        self.assertEqual(contents, [self.trust.content(name) for name in names])
        self.assertEqual(names, [self.trust.name(content) for content in contents])

    def test_numbers_have_eighteen_digits(self):
        for number in (LONG - 1, 1 - LONG, 0, -1):
            self.trust.name(number)
            self.trust.name(("x", (number,)))
        for number in (LONG, -LONG, LONG * 10):
            check_raises(self, BadContent, self.trust.name, [number])
            check_raises(self, BadContent, self.trust.name, [("x", (number,))])

    def test_true_and_false_are_no_contents(self):
        self.trust.name(1)
        self.trust.name((0, (1,)))
        size = self.trust.size()
        for content in (True, False, (True,), (0, (True,)), (False, (1,)), ("x", ((), (False,)))):
            check_raises(self, BadContent, self.trust.name, [content])
        self.assertEqual(size, self.trust.size())

    def test_bad_contents(self):
        self.trust.name("x")
        bad = [[], {}, [1], ([],), ("x", {}), (("y", [0]),), Trust(), (Trust(),), nested("x", 60), {1: 2}]
        for content in bad:
            check_raises(self, BadContent, self.trust.name, [content])
        self.assertEqual(1, self.trust.size())

    def test_names_within_contents_must_be_given(self):
        for content in (("name", 0), ("x", ("name", 0)), (("name", 5),), ((("name", 0), None),)):
            check_raises(self, BadContent, self.trust.name, [content])
        self.assertEqual(0, self.trust.size())
        self.assertEqual(("name", 0), self.trust.name("x"))
        self.assertEqual(("name", 1), self.trust.name(("name", 0)))
        self.assertEqual(("name", 2), self.trust.name(("x", ("name", 0))))
        check_raises(self, BadContent, self.trust.name, [("name", 3)])
        self.assertEqual(("name", 3), self.trust.name(("name", 1)))

    def test_what_begins_with_name_and_is_no_name(self):
        contents = [("name",), ("name", -1), ("name", None), ("name", "x"), ("name", ()), ("name", 7, 7), ("name", ("name",))]
        for at, content in enumerate(contents):
            self.assertEqual(("name", at), self.trust.name(content))
        for content in (("name", LONG), ("name", True), ("name", False), ("name", [])):
            check_raises(self, BadContent, self.trust.name, [content])

    def test_sixty_levels(self):
        content = deep("x", 60)
        name = self.trust.name(content)
        self.assertEqual(name, self.trust.name(deep("x", 60)))
        self.assertNotEqual(name, self.trust.name(deep("x", 59)))
        self.assertNotEqual(name, self.trust.name(deep("y", 60)))
        self.assertEqual(content, self.trust.content(name))
        check_raises(self, BadContent, self.trust.name, [deep(True, 60)])
        check_raises(self, BadContent, self.trust.name, [deep(("name", 3), 59)])
        self.assertEqual(3, self.trust.size())

    def test_names_within_are_less(self):
        name = self.trust.name("x")
        for _ in range(20):
            wider = self.trust.name(("y", name))
            self.assertLess(name, wider)
            self.assertLess(name[1], wider[1])
            name = wider

    def test_is_name(self):
        self.trust.name("x")
        self.trust.name("y")
        for value in (("name", 0), ("name", 1)):
            self.assertIs(True, self.trust.is_name(value))
        bad = [
            ("name", 2), ("name", -1), ("name", True), ("name", False), ("name", "0"), ("name", None), ("name",),
            ("name", 0, 0), ["name", 0], "name", 0, None, True, (), [], {}, {"name": 0}, ("Name", 0), (0, "name"),
            ("name", LONG), ("name", 0.0), Trust(), (("name", 0),), ("name", (0,)), (["name"], 0),
        ]
        for value in bad:
            with self.subTest(value=value):
                self.assertIs(False, self.trust.is_name(value))
                check_raises(self, BadName, self.trust.content, [value])
                check_raises(self, BadName, self.trust.seal, [("owner", 0), value])
                check_raises(self, BadName, self.trust.sealed, [("owner", 0), value])
        self.assertEqual(("name", 2), self.trust.name("z"))
        self.assertIs(True, self.trust.is_name(("name", 2)))

    def test_trusts_know_nothing_of_each_other(self):
        self.trust.name("x")
        other = Trust()
        self.assertFalse(other.is_name(("name", 0)))
        other.name("y")
        self.assertEqual("x", self.trust.content(("name", 0)))
        other.seal(("owner", 0), ("name", 0))
        self.assertFalse(self.trust.sealed(("owner", 0), ("name", 0)))
        self.assertNotEqual(self.trust, other)
        self.assertNotEqual(self.trust, None)

    def test_called_by_name(self):
        name = self.trust.name(content="x")
        self.assertTrue(self.trust.is_name(value=name))
        self.assertEqual("x", self.trust.content(name=name))
        self.assertIsNone(self.trust.seal(who=("owner", 0), name=name))
        self.assertTrue(self.trust.sealed(who=("owner", 0), name=name))


class Seals(unittest.TestCase):
    def setUp(self):
        self.trust = Trust()
        self.name = self.trust.name("x")
        self.other = self.trust.name("y")

    def test_who_sealed_what(self):
        whos = [(kind, number) for kind in ("owner", "member") for number in (0, 1, 99, LONG - 1)]
        for who in whos:
            self.assertIs(False, self.trust.sealed(who, self.name))
        for at, who in enumerate(whos):
            self.assertIsNone(self.trust.seal(who, self.name))
            for later, one in enumerate(whos):
                self.assertIs(later <= at, self.trust.sealed(one, self.name))
                self.assertIs(False, self.trust.sealed(one, self.other))

    def test_sealed_twice_is_sealed(self):
        self.trust.seal(("owner", 0), self.name)
        self.trust.seal(("owner", 0), self.name)
        self.assertTrue(self.trust.sealed(("owner", 0), self.name))

    def test_bad_who_comes_ahead_of_bad_name(self):
        bad = [
            None, "owner", ("owner",), ("owner", True), ("owner", False), ("owner", -1), ("owner", LONG),
            ("owner", "0"), ("owner", None), ("member", True), ("Owner", 0), ("name", 0), ["owner", 0],
            ("owner", 0, 0), (0, "owner"), (), [], {}, 0, True, Trust(), ([], 0), (True, 0),
        ]
        self.trust.seal(("owner", 1), self.name)
        self.trust.seal(("owner", 0), self.name)
        for who in bad:
            for function in (self.trust.seal, self.trust.sealed):
                with self.subTest(who=who):
                    check_raises(self, BadWho, function, [who, self.name])
                    check_raises(self, BadWho, function, [who, ("name", 9)])
        check_raises(self, BadName, self.trust.seal, [("member", 0), ("name", 2)])
        check_raises(self, BadName, self.trust.sealed, [("member", 0), ("name", 2)])

    def test_what_is_sealed_stays_so(self):
        self.trust.seal(("member", 3), self.other)
        for at in range(30):
            self.trust.seal(("member", 4 + at), self.trust.name(("more", at)))
        self.assertTrue(self.trust.sealed(("member", 3), self.other))
        self.assertEqual("y", self.trust.content(self.other))


if __name__ == "__main__":
    unittest.main()
