"""A desk at which payments are made and members asked, line by line."""

from pursesapart.checks import check_bank
from pursesapart.court import named
from pursesapart.errors import MoreLie, Poor
from pursesapart.lots import content_for, totals
from pursesapart.mostly import least_named, lock_of, most_paid, rest_of
from pursesapart.payments import past_of
from pursesapart.plans import Steps
from pursesapart.sure import surely_booked
from pursesapart.texts import number_in, steps_text, web_text
from pursesapart.trust import Trust

# What the words behind the first one stand for: a purse, an amount, a member, a place.
FORMS = {
    "pay": "PPA", "ask": "MK", "all": "K", "lie": "M", "books": "", "purses": "", "rest": "K", "lock": "P",
    "sure": "K", "named": "", "most": "P", "text": "",
}


class Desk:
    """Payments and steps over one Trust, and who lies by now."""

    def __init__(self, bank):
        check_bank(bank)
        self._bank = bank
        self._trust = Trust()
        self._web = []
        self._places = {}
        self._plan = []
        self._votes = []
        self._steps = Steps(self._trust, bank, ())

    def say(self, line):
        """The answer to the line, "what" for any value that is none."""
        told = self._numbers_in(line)
        if told is None:
            return "what"
        answers = {
            "pay": self._pay, "ask": self._ask, "all": self._ask_all, "lie": self._lie, "books": self._tell_books,
            "purses": self._tell_purses, "rest": self._tell_rest, "lock": self._tell_lock, "sure": self._tell_sure,
            "named": self._tell_named, "most": self._tell_most, "text": self._tell_text,
        }
        word, numbers = told
        answer = answers[word]
        return answer(*numbers)

    def _numbers_in(self, line):
        """The pair of the first word of a line and the list of its numbers, None for any value that is none."""
        if not isinstance(line, str):
            return None
        word, *others = line.split(" ")
        kinds = FORMS.get(word)
        if kinds is None or len(kinds) != len(others):
            return None
        numbers = [number_in(other) for other in others]
        limits = {"P": len(self._bank[0]), "M": self._bank[1], "K": len(self._web)}
        for kind, number in zip(kinds, numbers):
            if number is None or (kind == "A" and number == 0):
                return None
            if kind != "A" and number >= limits[kind]:
                return None
        return (word, numbers)

    def _pay(self, purse, to, amount):
        try:
            content = content_for(self._trust, self._bank, self._lot(), purse, to, amount)
        except Poor as poor:
            return "poor " + str(poor.has)
        name = self._trust.name(content)
        self._trust.seal(("owner", purse), name)
        if name not in self._places:
            self._places[name] = len(self._web)
            self._web.append(name)
        return "payment " + str(self._places[name])

    def _ask(self, member, place):
        name = self._web[place]
        if not self._step(member, name):
            return "no"
        return "vote " + str(len(self._steps.voters(name)))

    def _ask_all(self, place):
        name = self._web[place]
        for lower in past_of(self._trust, self._bank, name):
            for member in range(self._bank[1]):
                self._step(member, lower)
        if name in self._lot():
            return "booked"
        return "open"

    def _lie(self, member):
        liars = sorted({liar: True for liar in self._steps.liars + (member,)})
        if len(liars) >= least_named(self._bank):
            return "too many"
        # A plan stays a plan with more liars, so what was done stands.
        steps = self._steps
        steps.liars = tuple(liars)
        return "lying " + str(len(liars))

    def _tell_books(self):
        return told_or_none(sorted([self._places[name] for name in self._lot()]))

    def _tell_purses(self):
        return told_or_none(totals(self._trust, self._bank, self._lot()))

    def _tell_rest(self, place):
        told = rest_of(self._trust, self._bank, self._steps.liars, tuple(self._plan), [self._web[place]])
        if told[0] == "plan":
            return "plan " + str(len(told[1]))
        return "against " + told_or_none(told[2])

    def _tell_lock(self, purse):
        word, told = lock_of(self._trust, self._bank, self._steps.liars, tuple(self._plan), purse)
        if word == "open" and told is not None:
            return "open " + str(self._places[told])
        return word

    def _tell_sure(self, place):
        try:
            told = surely_booked(self._trust, self._bank, self._votes, self._web[place])
        except MoreLie:
            return "liars"
        return told[0]

    def _tell_named(self):
        return told_or_none([member for member, _ in named(self._trust, self._bank, self._votes)])

    def _tell_most(self, purse):
        return str(most_paid(self._trust, self._bank, self._steps.liars, self._lot(), (purse,)))

    def _tell_text(self):
        steps = steps_text(self._trust, self._bank, self._web, tuple(self._plan))
        return web_text(self._trust, self._bank, self._web) + steps

    def _lot(self):
        """The ascending tuple of all that is booked."""
        return tuple(self._steps.booked())

    def _step(self, member, name):
        """Does the step, and has the member vote, if it can be done: whether it was."""
        if not self._steps.do((member, name)):
            return False
        self._plan.append((member, name))
        vote = self._trust.name(("vote", member, name))
        self._trust.seal(("member", member), vote)
        self._votes.append(vote)
        return True


def told_or_none(numbers):
    """The numbers, with one space between them, "none" for none."""
    if not numbers:
        return "none"
    return " ".join([str(number) for number in numbers])
