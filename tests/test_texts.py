"""[123]: webs of payments and steps as texts, to the sign."""

import unittest

from pursesapart.errors import BadBank, BadSteps, BadText, BadTrust, BadWeb
from pursesapart.texts import read_steps, read_web, steps_text, web_text
from pursesapart.trust import Trust
from tests.helpers import BAD_BANKS, BAD_TRUSTS, LONG, SMALL, check_errors, odd_values, paid, pay, sealed_chain
from tests.plain_texts import bad_line, bent_texts, steps_checks, web_checks
from tests.watch import contents_of, seals_of
from tests.webs import grow


class Texts(unittest.TestCase):
    def setUp(self):
        self.trust = Trust()
        self.a = paid(self.trust, 0, 1, 1, 5, None, None)
        self.b = pay(self.trust, 0, 1, 1, 4, None, None)
        self.text = "bank 4 1 2\nbegin 5 0\nsealed 0 1 1 5 - -\nbare 0 1 1 4 - -\n"

    def check_bad(self, line, text, trust=None):
        """The text is refused at this line, and nothing is named or sealed."""
        trust = trust or Trust()
        before = contents_of(trust), seals_of(trust)
        with self.assertRaises(BadText) as caught:
            read_web(trust, text)
        self.assertEqual(line, caught.exception.line)
        self.assertEqual(before, (contents_of(trust), seals_of(trust)))

    def test_example_by_hand(self):
        self.assertEqual(self.text, web_text(self.trust, SMALL, [self.a, self.b]))
        self.check_bad(4, self.text.replace("bare 0 1 1 4", "bare 0 1 1 5"))
        text = "steps 1\nask 2 1\n"
        self.assertEqual(text, steps_text(self.trust, SMALL, [self.a, self.b], ((2, self.b),)))
        self.assertEqual(((2, self.b),), read_steps(self.trust, SMALL, [self.a, self.b], text))

    def test_read(self):
        trust = Trust()
        bank, web = read_web(trust, self.text)
        self.assertEqual((SMALL, [("name", 0), ("name", 1)]), (bank, web))
        self.assertEqual(contents_of(self.trust), contents_of(trust))
        self.assertEqual([(("owner", 0), ("name", 0))], seals_of(trust))
        self.assertEqual(self.text, web_text(trust, bank, tuple(web)))

    def test_read_where_it_was_made(self):
        before = contents_of(self.trust), seals_of(self.trust)
        self.assertEqual((SMALL, [self.b, self.a]), read_web(self.trust, web_text(self.trust, SMALL, (self.b, self.a))))
        self.assertEqual(before, (contents_of(self.trust), seals_of(self.trust)))

    def test_bare_takes_no_seal_away(self):
        read_web(self.trust, self.text.replace("sealed", "bare"))
        self.assertTrue(self.trust.sealed(("owner", 0), self.a))
        read_web(self.trust, self.text.replace("bare", "sealed"))
        self.assertTrue(self.trust.sealed(("owner", 0), self.b))

    def test_empty_webs(self):
        self.assertEqual("bank 1 0 0\nbegin 0\n", web_text(self.trust, ((0,), 1, 0), []))
        self.assertEqual((((0,), 1, 0), []), read_web(self.trust, "bank 1 0 0\nbegin 0\n"))
        self.assertEqual("steps 0\n", steps_text(self.trust, SMALL, (), ()))
        self.assertEqual((), read_steps(self.trust, SMALL, [], "steps 0\n"))

    def test_any_payments(self):
        """Right or not, with causes of whatever purse; the sequence is that of the web."""
        bank = ((5, 0, 7), 13, 4)
        text = ("bank 13 4 4\nbegin 5 0 7\nbare 2 9 2 999999999999999999 - - -\nsealed 0 999999999999999999 1 1 0 0 0\n"
                "bare 0 1 0 6 1 - 0\nsealed 2 9 2 999999999999999999 - - 2\n")
        read, web = read_web(self.trust, text)
        self.assertEqual((bank, text), (read, web_text(self.trust, bank, web)))
        self.assertEqual(("pay", 0, 1, 0, 6, (web[1], None, web[0])), self.trust.content(web[2]))

    def test_webs_and_steps(self):
        for seed in range(60):
            bank = [SMALL, ((3, 2, 1), 7, 2), ((4,), 1, 0), ((2, 2), 13, 4)][seed % 4]
            plain, names = grow(seed, bank, 9, poor=0.2, bent=0.2)
            web = [name for name in names if plain.parts(name) is not None]
            web = [name for name in web if set(plain.past(name)) <= set(web)]
            for name in web[::2]:
                plain.trust.seal(("owner", plain.place(name)[0]), name)
            text = web_text(plain.trust, bank, web)
            self.assertIsNone(bad_line(text, web_checks))
            before = contents_of(plain.trust), seals_of(plain.trust)
            self.assertEqual((bank, web), read_web(plain.trust, text))
            self.assertEqual(before, (contents_of(plain.trust), seals_of(plain.trust)))
            trust = Trust()
            trust.name(("pay", 0, 1, 0, 1, (None,) * len(bank[0])))
            told, other = read_web(trust, text)
            self.assertEqual((bank, text), (told, web_text(trust, bank, other)))
            steps = tuple((at % bank[1], name) for at, name in enumerate(web + web[:3]) if at < len(web) or bank[1] > 4)
            steps = tuple(dict.fromkeys(steps))
            lines = steps_text(plain.trust, bank, web, steps)
            self.assertIsNone(bad_line(lines, steps_checks(bank[1], len(web))))
            self.assertEqual(steps, read_steps(plain.trust, bank, web, lines))
            self.assertEqual(lines, steps_text(trust, bank, other, read_steps(trust, bank, other, lines)))

    def test_bent_texts(self):
        """A sign changed, put in, left out, a line doubled, left out, moved, in each place."""
        texts = [self.text, "bank 1 0 1\nbegin 9\nbare 0 10 0 1 -\n", "bank 10 3 3\nbegin 1 0 99\nsealed 0 1 1 5 - - -\n"
                 "bare 1 1 2 12 0 - -\nsealed 2 1 2 3 0 1 -\n", "bank 1 0 0\nbegin 0\n",
                 "bank 4 1 1\nbegin 999999999999999998 1\nbare 1 999999999999999999 0 1 - -\n"]
        counts = {}
        for text in texts:
            for bent in bent_texts(text):
                line = bad_line(bent, web_checks)
                counts[line] = counts.get(line, 0) + 1
                if line is None:
                    trust = Trust()
                    bank, web = read_web(trust, bent)
                    self.assertEqual(bent, web_text(trust, bank, web))
                else:
                    self.check_bad(line, bent)
        self.assertGreater(min(counts.values()), 10, counts)
        self.assertGreaterEqual(set(counts), {None, 1, 2, 3, 4, 5, 6})

    def test_bent_steps(self):
        web = [self.a, self.b]
        counts = {}
        for text in ("steps 3\nask 2 1\nask 0 0\nask 2 0\n", "steps 0\n", "steps 1\nask 3 0\n"):
            for bent in bent_texts(text):
                line = bad_line(bent, steps_checks(4, 2))
                counts[line] = counts.get(line, 0) + 1
                if line is None:
                    self.assertEqual(bent, steps_text(self.trust, SMALL, web, read_steps(self.trust, SMALL, web, bent)))
                else:
                    self.check_bad_steps(line, bent)
        self.assertGreater(min(counts.values()), 10, counts)

    def test_bad_steps_by_hand(self):
        for line, text in [(2, "steps 1\nask 0 2\n"), (2, "steps 1\nask 4 0\n"), (3, "steps 2\nask 3 1\nask 3 1\n"),
                           (1, "steps 3001\n"), (2, "steps 3000\n"), (1, "steps\n"), (1, "steps 1 1\nask 0 0\n"),
                           (2, "steps 1\nask 0 0 0\n"), (2, "steps 1\nask 0\n"), (2, "steps 1\nsteps 0 0\n"),
                           (3, "steps 1\nask 0 0\nask 0 1\n"), (2, "steps 1\nask 0 0")]:
            self.check_bad_steps(line, text)
        self.check_bad_steps(2, "steps 1\nask 0 0\n", [])

    def check_bad_steps(self, line, text, web=None):
        with self.assertRaises(BadText) as caught:
            read_steps(self.trust, SMALL, [self.a, self.b] if web is None else web, text)
        self.assertEqual(line, caught.exception.line)

    def test_bad_lines_by_hand(self):
        for line, text in [
                (1, ""), (1, "\n"), (1, "bank 4 1 0"), (2, "bank 4 1 0\n"), (2, "bank 4 1 0\n\n"), (2, "bank 4 1 0\nbegin 5 0"),
                (3, "bank 4 1 0\nbegin 5 0\n\n"), (3, "bank 4 1 0\nbegin 5 0\nx"), (3, "bank 4 1 1\nbegin 5 0\n"),
                (1, "bank 3 1 0\nbegin 5 0\n"), (1, "bank 14 1 0\nbegin 5 0\n"), (1, "bank 0 0 0\nbegin 5 0\n"),
                (1, "bank 04 1 0\nbegin 5 0\n"), (1, "bank +4 1 0\nbegin 5 0\n"), (1, "bank 4  1 0\nbegin 5 0\n"),
                (1, " bank 4 1 0\nbegin 5 0\n"), (1, "bank 4 1 0 \nbegin 5 0\n"), (1, "Bank 4 1 0\nbegin 5 0\n"),
                (1, "bank 4 -1 0\nbegin 5 0\n"), (1, "bank 4 1 401\nbegin 5 0\n"), (1, "bank 4 1 1000000000000000000\nbegin 5\n"),
                (2, "bank 4 1 0\nbegin\n"), (2, "bank 4 1 0\nbegin \n"), (2, "bank 4 1 0\nbegin 1 1 1 1 1 1 1 1 1\n"),
                (2, "bank 4 1 0\nbegin 999999999999999999 1\n"), (2, "bank 4 1 0\nbegin 1000000000000000000\n"),
                (3, "bank 4 1 400\nbegin 5 0\n"), (3, self.text.replace("- -", "-", 1)), (3, self.text.replace("- -", "- 0", 1)),
                (4, self.text.replace("4 - -", "4 - 1")), (3, self.text.replace("sealed 0", "sealed 2")),
                (3, self.text.replace("sealed 0 1 1", "sealed 0 0 1")), (3, self.text.replace("1 1 5", "1 2 5")),
                (3, self.text.replace("1 1 5", "1 1 0")), (4, self.text.replace("4 - -", "5 - -")), (4, self.text[:-1]),
                (5, self.text + "\n"), (5, self.text + self.text), (4, self.text.replace("bare", "seal")),
                (4, self.text.replace("bare 0", "bare 00"))]:
            with self.subTest(text=text):
                self.check_bad(line, text)

    def test_no_strings(self):
        for value in odd_values() + [b"bank 1 0 0\nbegin 0\n", [self.text], (self.text,)]:
            if isinstance(value, str):
                self.check_bad(1, value)
                self.check_bad_steps(1, value)
            else:
                self.check_bad(0, value)
                self.check_bad_steps(0, value)

    def test_the_bounds(self):
        bank = ((500, 0), 13, 4)
        names = sealed_chain(self.trust, bank, 401)
        self.assertRaises(BadWeb, web_text, self.trust, bank, names)
        text = web_text(self.trust, bank, names[:400])
        trust = Trust()
        self.assertEqual((bank, text), (read_web(trust, text)[0], web_text(trust, bank, read_web(trust, text)[1])))
        line = "sealed 0 201 1 1 398 399\n"
        self.check_bad(1, text.replace("bank 13 4 400", "bank 13 4 401") + line)
        web = names[:400]
        steps = tuple((at % 13, web[at // 13]) for at in range(3001))
        lines = steps_text(self.trust, bank, web, steps[:3000])
        self.assertEqual(steps[:3000], read_steps(self.trust, bank, web, lines))
        self.assertRaises(BadSteps, steps_text, self.trust, bank, web, steps)
        with self.assertRaises(BadText) as caught:
            read_steps(self.trust, bank, web, lines.replace("steps 3000", "steps 3001") + "ask 10 230\n")
        self.assertEqual(1, caught.exception.line)

    def test_errors(self):
        web = [self.a, self.b]
        above = pay(self.trust, 1, 1, 0, 1, self.a, None)
        bad_webs = [None, 0, True, "ab", {}, self.a, [None], [self.a, self.a], [self.a, True], [above], [above, self.a],
                    [self.trust.name("pay")], [("name", 99)], [("name", True)], [[self.a]], ["name"], LONG, Trust(),
                    [pay(self.trust, 0, 1, 1, 1, None)], [["name", 0]], [{}]]
        first = [("trust", self.trust, BadTrust, BAD_TRUSTS), ("bank", SMALL, BadBank, BAD_BANKS),
                 ("web", web, BadWeb, bad_webs)]
        check_errors(self, web_text, first)
        bad_steps = [None, 0, True, "ab", {}, [], [(0, self.a)], ((0, self.a), (0, self.a)), ((4, self.a),), ((-1, self.a),),
                     ((True, self.a),), ((0, above),), ((0, None),), ((0,),), ((0, self.a, 0),), ([0, self.a],), (0, self.a),
                     ((0, ("name", True)),), ((0, ["name", 0]),), ((0, {}),), (("0", self.a),), LONG, Trust()]
        check_errors(self, steps_text, first + [("steps", ((0, self.a), (3, self.b)), BadSteps, bad_steps)])
        texts = ["", "steps", "steps 1\n", "steps 0\n\n", None, 0, [], b"steps 0\n"]
        check_errors(self, read_steps, first + [("text", "steps 0\n", BadText, texts)])
        check_errors(self, read_web, [("trust", self.trust, BadTrust, BAD_TRUSTS),
                                      ("text", self.text, BadText, ["", "bank", None, 0, [], {}, Trust()])])
        self.assertEqual(web_text(self.trust, SMALL, (self.a, above)), web_text(self.trust, SMALL, [self.a, above]))

    def test_nothing_is_changed(self):
        web = [self.b, self.a]
        text = web_text(self.trust, SMALL, web)
        other = read_web(self.trust, text)[1]
        other.clear()
        self.assertEqual(([self.b, self.a], [self.b, self.a]), (read_web(self.trust, text)[1], web))


if __name__ == "__main__":
    unittest.main()
