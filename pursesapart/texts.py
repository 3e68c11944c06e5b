"""Webs of payments and steps as texts, to the sign."""

from pursesapart.checks import is_bank, is_begin, is_member, is_name_pair, is_number_below, is_purse
from pursesapart.errors import BadSteps, BadText, BadTrust, BadWeb
from pursesapart.facts import named_causes, parts_of
from pursesapart.trust import Trust, check_both

MOST_PAYMENTS = 400
MOST_STEPS = 3000
MOST_FIGURES = 18
FIGURES = "0123456789"


class Lines:
    """The lines of a text, read one behind another; number is that of the line read last."""

    def __init__(self, text):
        if not isinstance(text, str):
            raise BadText(0)
        self.number = 0
        self._left = text.split("\n")
        self._left.reverse()

    def words(self):
        """The list of the words of the next line, which must have a newline behind it."""
        self.number += 1
        # What stands behind the last newline is no line, and should be nothing.
        if len(self._left) == 1:
            raise BadText(self.number)
        return self._left.pop().split(" ")

    def numbers(self, word, many):
        """The list of the numbers of the next line behind this word: just so many, or, for None, some."""
        words = self.words()
        numbers = [number_in(told) for told in words[1:]]
        if words[0] != word or None in numbers or len(numbers) != (many or len(numbers)):
            raise BadText(self.number)
        return numbers

    def end(self):
        """BadText if anything is left."""
        if self._left != [""]:
            raise BadText(self.number + 1)


def number_in(word):
    """The number that the word tells in figures, None if it tells none."""
    if not 1 <= len(word) <= MOST_FIGURES or not all([sign in FIGURES for sign in word]):
        return None
    if word[0] == "0" and word != "0":
        return None
    return int(word)


def line_of(items):
    """The line of these words and numbers."""
    return " ".join([str(item) for item in items]) + "\n"


def places_in(trust, bank, web):
    """BadTrust, BadBank, BadWeb: the dict from the payments of the web to their places."""
    check_both(trust, bank)
    if not isinstance(web, (list, tuple)) or len(web) > MOST_PAYMENTS:
        raise BadWeb("a list of at most 400 payments is wanted")
    places = {}
    for name in web:
        if not trust.is_name(name) or name in places:
            raise BadWeb("unlike names of payments are wanted")
        parts = parts_of(trust, bank, name)
        if parts is None or not all([cause in places for cause in named_causes(parts)]):
            raise BadWeb("payments are wanted, each behind its causes")
        places[name] = len(places)
    return places


def web_text(trust, bank, web):
    """The text of the web."""
    places = places_in(trust, bank, web)
    lines = [line_of(["bank", bank[1], bank[2], len(web)]), line_of(("begin",) + bank[0])]
    for name in web:
        purse, number, to, amount, causes = parts_of(trust, bank, name)
        word = "bare"
        if trust.sealed(("owner", purse), name):
            word = "sealed"
        told = [places.get(cause, "-") for cause in causes]
        lines.append(line_of([word, purse, number, to, amount] + told))
    return "".join(lines)


def read_web(trust, text):
    """The pair (bank, web) that the text tells; its payments are named, and sealed as it tells."""
    if not isinstance(trust, Trust):
        raise BadTrust("a Trust is wanted")
    lines = Lines(text)
    members, lies, many = lines.numbers("bank", 3)
    if not is_bank(((0,), members, lies)) or many > MOST_PAYMENTS:
        raise BadText(lines.number)
    begin = tuple(lines.numbers("begin", None))
    if not is_begin(begin):
        raise BadText(lines.number)
    bank = (begin, members, lies)
    entries = {}
    for _ in range(many):
        sealed, entry = read_entry(lines, bank, len(entries))
        if entry in entries:
            raise BadText(lines.number)
        entries[entry] = sealed
    lines.end()
    return (bank, web_named(trust, entries))


def read_entry(lines, bank, place):
    """The pair of whether the payment of the next line is sealed, and what it tells of it, causes by their places."""
    words = lines.words()
    if words[0] not in ("sealed", "bare") or len(words) != 5 + len(bank[0]):
        raise BadText(lines.number)
    purse, number, to, amount = [number_in(word) for word in words[1:5]]
    if not is_purse(bank, purse) or not is_purse(bank, to) or not number or not amount:
        raise BadText(lines.number)
    causes = []
    for word in words[5:]:
        cause = number_in(word)
        if word != "-" and not is_number_below(cause, place):
            raise BadText(lines.number)
        causes.append(cause)
    return (words[0] == "sealed", (purse, number, to, amount, tuple(causes)))


def web_named(trust, entries):
    """Names what the entries tell, has owners seal what is sealed: the list of the names."""
    web = []
    for (purse, number, to, amount, causes), sealed in entries.items():
        named_by = tuple([None if cause is None else web[cause] for cause in causes])
        name = trust.name(("pay", purse, number, to, amount, named_by))
        if sealed:
            trust.seal(("owner", purse), name)
        web.append(name)
    return web


def steps_text(trust, bank, web, steps):
    """The text of the steps for payments of the web."""
    places = places_in(trust, bank, web)
    if not isinstance(steps, tuple) or len(steps) > MOST_STEPS:
        raise BadSteps("a tuple of at most 3000 steps is wanted")
    met = {}
    lines = [line_of(["steps", len(steps)])]
    for step in steps:
        if not is_step(bank, places, step) or step in met:
            raise BadSteps("unlike pairs of a member and a payment of the web are wanted")
        met[step] = True
        lines.append(line_of(["ask", step[0], places[step[1]]]))
    return "".join(lines)


def is_step(bank, places, value):
    """Whether any value is a pair of a member and a payment of the web."""
    if not isinstance(value, tuple) or len(value) != 2 or not is_member(bank, value[0]):
        return False
    return is_name_pair(value[1]) and value[1] in places


def read_steps(trust, bank, web, text):
    """The tuple of the steps that the text tells."""
    names = list(places_in(trust, bank, web))
    lines = Lines(text)
    many = lines.numbers("steps", 1)[0]
    if many > MOST_STEPS:
        raise BadText(lines.number)
    steps = {}
    for _ in range(many):
        member, place = lines.numbers("ask", 2)
        if not is_member(bank, member) or place >= len(names) or (member, names[place]) in steps:
            raise BadText(lines.number)
        steps[(member, names[place])] = True
    lines.end()
    return tuple(steps)
