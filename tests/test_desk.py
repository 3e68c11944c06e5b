"""[124]: a desk, line by line."""

import random
import unittest

from pursesapart.court import named
from pursesapart.desk import Desk
from pursesapart.errors import BadBank, MoreLie
from pursesapart.mostly import lock_of, most_paid, rest_of
from pursesapart.plans import is_plan
from pursesapart.sure import surely_booked
from pursesapart.texts import read_steps, read_web
from pursesapart.trust import Trust
from tests.helpers import BAD_BANKS, LONG, SMALL, odd_values
from tests.plain import Plain
from tests.test_plans import plain_booked, plain_step

EXAMPLE = """pay 0 1 6|poor 5
pay 0 1 5|payment 0
pay 0 1 4|payment 1
ask 0 0|vote 1
ask 0 1|no
ask 1 1|vote 1
ask 2 1|vote 2
rest 0|against 1 2
lock 0|open 1
all 1|booked
books|1
purses|1 4
lie 3|lying 1
lie 2|too many
ask 3 0|vote 2
named|3
most 0|5
text|bank 4 1 2
begin 5 0
sealed 0 1 1 5 - -
sealed 0 1 1 4 - -
steps 5
ask 0 0
ask 1 1
ask 2 1
ask 3 1
ask 3 0
"""


class PlainDesk:
    """The words of the desk; what other points tell is told by them, for a Trust of its own."""

    def __init__(self, bank):
        self.bank = bank
        self.trust = Trust()
        self.plain = Plain(self.trust, bank)
        self.web = []
        self.plan = ()
        self.votes = []
        self.liars = ()

    def booked(self):
        return plain_booked(self.plain, self.plan)

    def do(self, member, name):
        if not plain_step(self.plain, self.liars, self.plan, (member, name)):
            return False
        self.plan += ((member, name),)
        vote = self.trust.name(("vote", member, name))
        self.trust.seal(("member", member), vote)
        self.votes.append(vote)
        return True

    def pay(self, purse, to, amount):
        booked = self.booked()
        held = self.plain.purses_behind(booked)[purse]
        if held < amount:
            return "poor %d" % held
        causes = tuple(self.plain.last(booked, at) for at in range(self.plain.purses))
        number = 1 + sum(self.plain.place(name)[0] == purse for name in booked)
        name = self.trust.name(("pay", purse, number, to, amount, causes))
        self.trust.seal(("owner", purse), name)
        if name not in self.web:
            self.web.append(name)
        return "payment %d" % self.web.index(name)

    def ask(self, member, at):
        if not self.do(member, self.web[at]):
            return "no"
        return "vote %d" % len({one for one, name in self.plan if name == self.web[at]})

    def all(self, at):
        for name in sorted(self.plain.past(self.web[at])):
            for member in range(self.bank[1]):
                self.do(member, name)
        return "booked" if self.web[at] in self.booked() else "open"

    def lie(self, member):
        liars = tuple(sorted({*self.liars, member}))
        if len(liars) >= self.bank[1] - 2 * self.bank[2]:
            return "too many"
        self.liars = liars
        return "lying %d" % len(liars)

    def books(self):
        return told(sorted(self.web.index(name) for name in self.booked()))

    def purses(self):
        return told(self.plain.purses_behind(self.booked()))

    def rest(self, at):
        word, *rest = rest_of(self.trust, self.bank, self.liars, self.plan, [self.web[at]])
        return "plan %d" % len(rest[0]) if word == "plan" else "against " + told(rest[1])

    def lock(self, purse):
        word, rest = lock_of(self.trust, self.bank, self.liars, self.plan, purse)
        return word if word == "locked" or rest is None else "open %d" % self.web.index(rest)

    def sure(self, at):
        try:
            return surely_booked(self.trust, self.bank, self.votes, self.web[at])[0]
        except MoreLie:
            return "liars"

    def named(self):
        return told([member for member, _ in named(self.trust, self.bank, self.votes)])

    def most(self, purse):
        return str(most_paid(self.trust, self.bank, self.liars, list(self.booked()), (purse,)))

    def text(self):
        lines = ["bank %d %d %d" % (self.bank[1], self.bank[2], len(self.web)), "begin " + told(self.bank[0])]
        for name in self.web:
            causes = ["-" if cause is None else str(self.web.index(cause)) for cause in self.plain.parts(name)[4]]
            lines.append("sealed " + told(self.plain.parts(name)[:4]) + " " + " ".join(causes))
        lines.append("steps %d" % len(self.plan))
        lines += ["ask %d %d" % (member, self.web.index(name)) for member, name in self.plan]
        return "".join(line + "\n" for line in lines)


def told(numbers):
    """Numbers with one space between them."""
    return " ".join(str(number) for number in numbers) or "none"


FORMS = {"pay": "PPA", "ask": "MK", "all": "K", "lie": "M", "books": "", "purses": "", "rest": "K", "lock": "P",
         "sure": "K", "named": "", "most": "P", "text": ""}


class Desks(unittest.TestCase):
    def test_example_by_hand(self):
        desk = Desk(SMALL)
        for row in EXAMPLE.split("\n", 17):
            line, answer = row.split("|")
            self.assertEqual(answer, desk.say(line), line)

    def test_an_empty_desk(self):
        desk = Desk(SMALL)
        for line, answer in [("books", "none"), ("purses", "5 0"), ("named", "none"), ("lock 1", "open"), ("most 0", "5"),
                             ("most 1", "0"), ("text", "bank 4 1 0\nbegin 5 0\nsteps 0\n"), ("rest 0", "what"),
                             ("ask 0 0", "what"), ("all 0", "what"), ("sure 0", "what"), ("pay 1 0 1", "poor 0")]:
            self.assertEqual(answer, desk.say(line), line)

    def test_an_old_payment(self):
        desk = Desk(SMALL)
        answers = [desk.say(line) for line in ("pay 0 1 5", "pay 0 1 4", "pay 0 1 5", "all 0", "pay 0 1 5", "pay 1 1 5",
                                               "pay 1 1 5", "pay 0 1 4", "books")]
        self.assertEqual(["payment 0", "payment 1", "payment 0", "booked", "poor 0", "payment 2", "payment 2", "poor 0",
                          "0"], answers)

    def test_all_asks_the_past_too(self):
        """Payment 1 has payment 0 in its past; both are booked by one line once its own votes came about."""
        desk = Desk(((5, 5), 4, 1))
        lines = ["pay 0 1 5", "all 0", "pay 1 0 9", "pay 0 0 1", "all 1", "books", "purses", "text"]
        answers = [desk.say(line) for line in lines]
        self.assertEqual(["payment 0", "booked", "payment 1", "poor 0", "booked", "0 1", "9 1"], answers[:7])
        self.assertEqual(8, answers[7].count("ask "))

    def test_open_and_locked(self):
        desk = Desk(((5, 0), 4, 1))
        lines = ["pay 0 1 5", "pay 0 1 4", "ask 0 0", "ask 1 0", "lock 0", "ask 2 1", "lock 0", "ask 3 1", "lock 0", "all 0",
                 "rest 1", "most 0", "lie 0", "lock 0", "rest 0", "rest 1"]
        answers = [desk.say(line) for line in lines]
        self.assertEqual(["payment 0", "payment 1", "vote 1", "vote 2", "open 0", "vote 1", "open 0", "vote 2", "locked",
                          "open", "against 0 1", "5", "lying 1", "open 1", "against 2 3", "plan 1"], answers)

    def test_lying(self):
        desk = Desk(((5, 0), 7, 1))
        answers = [desk.say(line) for line in ("lie 6", "lie 6", "lie 0", "lie 3", "lie 5", "lie 1", "lie 0", "lie 7")]
        self.assertEqual(["lying 1", "lying 1", "lying 2", "lying 3", "lying 4", "too many", "lying 4", "what"], answers)
        self.assertEqual("too many", Desk(((5,), 1, 0)).say("lie 0"))
        self.assertEqual("lying 1", Desk(((5,), 2, 0)).say("lie 0"))

    def test_sure(self):
        desk = Desk(SMALL)
        lines = ["pay 0 1 5", "sure 0", "all 0", "sure 0", "pay 1 0 1", "pay 1 0 2", "lie 0", "ask 0 1", "ask 0 2", "sure 0",
                 "named", "sure 1"]
        answers = [desk.say(line) for line in lines]
        self.assertEqual(["payment 0", "open", "booked", "votes", "payment 1", "payment 2", "lying 1", "vote 1", "vote 1",
                          "votes", "0", "open"], answers)
        desk = Desk(((5, 0), 3, 0))
        lines = ["pay 0 1 5", "pay 0 1 4", "lie 1", "ask 1 0", "ask 1 1", "sure 0", "named"]
        self.assertEqual("liars", [desk.say(line) for line in lines][5])

    def test_each_word_bent(self):
        """Lines that are none: each word bent, beyond each bound; nothing is done by them."""
        desk = Desk(SMALL)
        for line in ("pay 0 1 5", "pay 0 1 4", "all 1", "lie 3", "ask 3 0"):
            desk.say(line)
        before = desk.say("text"), desk.say("named"), desk.say("books"), desk.say("most 0")
        good = ["pay 0 1 1", "ask 0 0", "all 0", "lie 3", "books", "purses", "rest 0", "lock 0", "sure 0", "named", "most 0",
                "text"]
        for line in good:
            self.assertNotEqual("what", desk.say(line) if line not in good[:3] else "")
            for bent in self.bent_lines(line):
                self.assertEqual("what", desk.say(bent), bent)
        self.assertEqual(before, (desk.say("text"), desk.say("named"), desk.say("books"), desk.say("most 0")))

    def bent_lines(self, line):
        words = line.split(" ")
        yield from (line + " ", " " + line, line + "\n", line + " 0", line.upper(), line + ".", line.replace(" ", "  "),
                    line.replace(" ", "\t")) if " " in line else (line + " ", " " + line, line + "\n", line + " 0", line + "s")
        for at in range(1, len(words)):
            for word in ("", "00", "01", "-0", "+1", "-1", "x", "1.0", "8", "9" * 18, "1" + "0" * 18, "\u0661", "None", "1_0"):
                if not (words[0] == "pay" and at == 3 and word in ("8", "9" * 18)):
                    yield " ".join(words[:at] + [word] + words[at + 1:])
            yield " ".join(words[:at] + words[at + 1:])
            yield " ".join(words[:at] + ["0"] + words[at:]) + " 0"
        if words[0] == "pay":
            yield from ("pay 0 2 1", "pay 2 0 1", "pay 0 1 0", "pay 0 1")
        if words[0] == "ask":
            yield from ("ask 4 0", "ask 0 2", "ask 0")
        if words[0] in ("all", "rest", "sure"):
            yield words[0] + " 2"
        if words[0] == "lie":
            yield "lie 4"
        if words[0] in ("lock", "most"):
            yield words[0] + " 2"

    def test_any_value(self):
        desk = Desk(SMALL)
        for value in odd_values() + [b"books", ["books"], ("books",), "Books", "book", "what", "say books", "", " "]:
            self.assertEqual("what", desk.say(value))
        self.assertEqual("poor 5", desk.say("pay 0 1 %d" % (LONG - 1)))
        self.assertEqual("what", desk.say("pay 0 1 %d" % LONG))

    def test_lines_against_the_words(self):
        counts = {}
        for seed in range(500):
            dice = random.Random(seed)
            # In some runs hardly anything is booked at once, and clashing payments get votes.
            often = dice.choice([["pay", "all"], ["ask"] * 8 + ["sure", "rest", "lock"], ["ask"] * 20 + ["lie", "sure", "rest"]])
            bank = dice.choice([SMALL, ((5, 2, 0), 4, 1), ((3, 3), 7, 1), ((4,), 1, 0), ((9, 1), 5, 1), ((5, 0), 3, 0)])
            desk, words = Desk(bank), PlainDesk(bank)
            for at in range(dice.choice([15, 30, 60])):
                word = dice.choice(["pay", "pay", "sure"] if at < 4 else list(FORMS)[at % 2 * 12:] + often)
                limits = {"P": len(bank[0]), "M": bank[1], "K": len(words.web), "A": 5}
                if "K" in FORMS[word] and not words.web:
                    continue
                numbers = [dice.randrange(limits[kind]) + (kind == "A") for kind in FORMS[word]]
                expected = getattr(words, word)(*numbers)
                answer = desk.say(" ".join([word] + [str(number) for number in numbers]))
                self.assertEqual(expected, answer, (seed, word, numbers))
                key = word, answer.split(" ")[0] if not answer[0].isdigit() else "0"
                counts[key] = counts.get(key, 0) + 1
            self.assertTrue(is_plan(words.trust, bank, words.liars, words.plan))
            self.check_text(desk, bank)
        for key in [("pay", "poor"), ("pay", "payment"), ("ask", "no"), ("ask", "vote"), ("all", "booked"), ("all", "open"),
                    ("lie", "too"), ("lie", "lying"), ("books", "none"), ("rest", "plan"), ("rest", "against"),
                    ("lock", "open"), ("lock", "locked"), ("sure", "votes"), ("sure", "open"), ("sure", "liars"),
                    ("named", "none"), ("named", "0")]:
            self.assertGreater(counts.get(key, 0), 4, (key, counts))
        # What a payment at the desk sees is booked, by votes that the desk knows: so there is nothing more to be sure of.
        self.assertNotIn(("sure", "sure"), counts)

    def check_text(self, desk, bank):
        """The text of the desk is a web's and steps' text."""
        text = desk.say("text")
        at = text.index("steps ")
        trust = Trust()
        told_bank, web = read_web(trust, text[:at])
        self.assertEqual(bank, told_bank)
        read_steps(trust, bank, web, text[at:])

    def test_a_long_day(self):
        desk = Desk(((400, 400), 4, 1))
        for at in range(150):
            self.assertEqual("payment %d" % at, desk.say("pay %d %d 1" % (at % 2, 1 - at % 2)))
            self.assertEqual("booked", desk.say("all %d" % at))
        self.assertEqual(told(range(150)), desk.say("books"))
        self.assertEqual("votes", desk.say("sure 3"))
        self.assertEqual("plan 0", desk.say("rest 149"))
        self.assertEqual(600, desk.say("text").count("ask "))

    def test_errors(self):
        for bank in BAD_BANKS:
            with self.assertRaises(BadBank):
                Desk(bank)


if __name__ == "__main__":
    unittest.main()
