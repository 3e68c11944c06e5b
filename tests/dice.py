"""Runs drawn from told random numbers: letters lost, doubled and late, falls, and ends that lie as they like."""

import random

from pursesapart.errors import BadContent, Busy, Gone, NotGone, Poor
from pursesapart.runs import Play


class Throws:
    """One run, and what it was seen to do, looked at behind each event."""

    def __init__(self, seed, bank, liars, cheats, falls=0.1):
        self.dice = random.Random(seed)
        self.play = Play(bank, liars, cheats)
        self.purses = len(bank[0])
        self.falls = falls
        self.ends = [end for end in self.every() if end not in self.lying()]
        self.ledger = {}
        self.calls = []
        self.fresh = []
        self.seen = 0

    def every(self):
        """All ends."""
        bank = self.play.bank
        return [("owner", at) for at in range(len(bank[0]))] + [("member", at) for at in range(bank[1])]

    def lying(self):
        """The ends that lie."""
        return [("owner", at) for at in self.play.cheats] + [("member", at) for at in self.play.liars]

    def go(self, events):
        """So many events, each looked at."""
        for _ in range(events):
            try:
                self.event()
            except (Busy, Poor, Gone, NotGone, BadContent):
                pass
            self.look()

    def event(self):
        """One event, drawn; most of them bring a letter, mostly one that was not brought yet."""
        play, dice = self.play, self.dice
        way = dice.random()
        if way < 0.08 and self.ends_of("owner"):
            play.pay(dice.choice(self.ends_of("owner"))[1], dice.randrange(self.purses), dice.randint(1, 3))
        elif way < 0.12 and self.ends_of("owner"):
            dice.choice([play.again, play.news, play.look])(dice.choice(self.ends_of("owner"))[1])
        elif way < 0.12 + self.falls and self.ends:
            play.fall(dice.choice(self.ends), dice.choice([None, 0, 0, 1, 2]))
        elif way < 0.12 + 3 * self.falls and self.ends:
            gone = [end for end in self.ends if play.is_gone(end)]
            play.back(dice.choice(gone or self.ends))
        elif way < 0.2 + 3 * self.falls and self.lying():
            self.lie()
        elif play.count():
            self.fresh += [number for number in range(self.seen, play.count())]
            self.seen = play.count()
            number = dice.randrange(play.count())
            if self.fresh and dice.random() < 0.9:
                number = self.fresh.pop(dice.randrange(len(self.fresh)))
            if dice.random() < 0.9:
                play.bring(number)

    def ends_of(self, word):
        """The ends that do not lie of one kind."""
        return [end for end in self.ends if end[0] == word]

    def lie(self):
        """An end that lies does something."""
        play, dice = self.play, self.dice
        who = dice.choice(self.lying())
        names = [("name", at) for at in range(play.trust.size())]
        if who[0] == "member" and names:
            paid = [name for name in names if is_pay(play.trust.content(name))]
            if paid:
                vote = play.lie(who, ("vote", who[1], dice.choice(paid)))
                self.look()
                payment = play.trust.content(vote)[2]
                self.send(who, ("owner", play.trust.content(payment)[1]), ("vote", vote))
        elif who[0] == "owner" and dice.random() < 0.4:
            self.split(who)
        elif who[0] == "owner":
            name = play.lie(who, self.some_content(who[1]))
            self.look()
            for member in dice.sample(range(play.bank[1]), dice.randrange(play.bank[1] + 1)):
                self.send(who, ("member", member), ("ask", name, self.some_certificates()))
        self.send(who, dice.choice(self.every()), ("tell", self.some_certificates()))

    def split(self, who):
        """Two payments with one number, for which all that lie vote, and each other member for whichever it hears."""
        play = self.play
        content = self.some_content(who[1])
        names = [play.lie(who, content), play.lie(who, content[:4] + (content[4] + 1,) + content[5:])]
        for member in range(play.bank[1]):
            if member in play.liars:
                for name in names:
                    play.lie(("member", member), ("vote", member, name))
            else:
                self.send(who, ("member", member), ("ask", self.dice.choice(names), self.some_certificates()))
            self.look()

    def send(self, sender, receiver, body):
        """Sends and mostly brings it."""
        number = self.play.send((sender, receiver, body))
        self.look()
        if self.dice.random() < 0.7:
            self.play.bring(number)
            self.look()

    def some_content(self, purse):
        """A payment out of the purse behind the shelf of somebody, right or nearly so."""
        play, dice = self.play, self.dice
        lasts = [None] * self.purses
        numbers = [0] * self.purses
        for payment, _ in dice.choice([play.shelf_of(end) for end in self.ends] or [()]):
            _, at, number, _, _, _ = play.trust.content(payment)
            if number > numbers[at]:
                lasts[at], numbers[at] = payment, number
        return ("pay", purse, numbers[purse] + 1, dice.randrange(self.purses), dice.randint(1, 4), tuple(lasts))

    def some_certificates(self):
        """Certificates put together out of all votes that were sealed, or those of a shelf."""
        play, dice = self.play, self.dice
        told = list(dice.choice([play.shelf_of(end) for end in self.ends] or [()]))
        chosen = {}
        for at in range(play.trust.size()):
            content = play.trust.content(("name", at))
            if isinstance(content, tuple) and content[:1] == ("vote",):
                if play.trust.sealed(("member", content[1]), ("name", at)):
                    chosen.setdefault(content[2], []).append(("name", at))
        need = play.bank[1] - play.bank[2]
        for payment, votes in chosen.items():
            if len(votes) >= need and payment not in [item[0] for item in told]:
                told.append((payment, tuple(sorted(dice.sample(votes, need)))))
        return tuple(told)

    def look(self):
        """Notes what is on shelves and in the cells now."""
        play = self.play
        for end in self.ends:
            for item in play.shelf_of(end):
                self.ledger.setdefault(item[0], play.moment())
        calls = play.calls()
        for at, (purse, payment, begin, end) in enumerate(calls):
            if at == len(self.calls):
                self.calls.append((purse, payment, play.moment(), None))
            if self.calls[at][3] is None and play.cells_of(("owner", purse)).get("asked") != payment:
                self.calls[at] = self.calls[at][:3] + (play.moment(),)


def is_pay(content):
    """Whether a content looks like a payment."""
    return isinstance(content, tuple) and len(content) == 6 and content[0] == "pay"
