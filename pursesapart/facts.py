"""What is so of a named content as a payment of a bank, found out once and kept by the Trust.

A content that has a name never changes, and neither does anything below it. So a fact stays for ever.
"""

from pursesapart.checks import is_number_from, is_purse


class Fact:
    """One name in one bank: all that its past tells of it."""

    def __init__(self, parts, past):
        self.parts = parts
        self.past = past
        self.formed = False
        self.found = None
        self.fault = None


def parts_of(trust, bank, name):
    """The tuple (purse, number, to, amount, causes) of a given name, None without the outer form."""
    content = trust.content(name)
    if not isinstance(content, tuple) or len(content) != 6 or content[0] != "pay":
        return None
    _, purse, number, to, amount, causes = content
    if not is_purse(bank, purse) or not is_purse(bank, to):
        return None
    if not is_number_from(number, 1) or not is_number_from(amount, 1):
        return None
    if not are_causes(trust, bank, causes):
        return None
    return content[1:]


def are_causes(trust, bank, value):
    """Whether it is a tuple with None or a given name for each purse."""
    if not isinstance(value, tuple) or len(value) != len(bank[0]):
        return False
    return all([cause is None or trust.is_name(cause) for cause in value])


def fact_of(trust, bank, name):
    """The fact of a given name; all names below it get theirs as well."""
    facts = trust.facts_for(bank)
    if name not in facts:
        unknown = unknown_names(trust, bank, facts, name)
        for one in unknown:
            facts[one] = new_fact(trust, bank, facts, one)
    return facts[name]


def facts_with(trust, bank, names):
    """The facts of the bank, those of these given names among them."""
    for name in names:
        fact_of(trust, bank, name)
    return trust.facts_for(bank)


def unknown_names(trust, bank, facts, name):
    """The ascending names of the past of a name without a fact that have none either."""
    met = {name: True}
    waiting = [name]
    while waiting:
        parts = parts_of(trust, bank, waiting.pop())
        for cause in named_causes(parts):
            if cause not in facts and cause not in met:
                met[cause] = True
                waiting.append(cause)
    return sorted(met)


def named_causes(parts):
    """The list of the causes that are not None; a content without the outer form leads no further."""
    if parts is None:
        return []
    return [cause for cause in parts[4] if cause is not None]


def new_fact(trust, bank, facts, name):
    """The fact of a name all of whose causes have facts."""
    parts = parts_of(trust, bank, name)
    if parts is None:
        fact = Fact(None, (name,))
        fact.fault = ("outer", name)
        return fact
    below = names_below(facts, parts)
    fact = Fact(parts, tuple(below + [name]))
    causes = [facts[cause] for cause in named_causes(parts)]
    wrong = None
    if all([cause.formed for cause in causes]):
        wrong = form_fault(facts, name, parts, below)
        fact.formed = wrong is None
    if fact.formed:
        fact.found = purses_behind(bank, facts, below)[parts[0]]
        if fact.found < parts[3]:
            wrong = ("amount", name, fact.found)
    # What is wrong further down is told first, for only what is below it makes the rest well told.
    faults = [cause.fault for cause in causes if cause.fault is not None]
    fact.fault = min(faults, key=lambda fault: fault[1], default=wrong)
    return fact


def names_below(facts, parts):
    """The ascending list of the names in the pasts of the causes."""
    met = {}
    # Whoever was met has brought its whole past, and the greater cause may bring the lesser one.
    for cause in sorted(named_causes(parts), reverse=True):
        if cause not in met:
            for name in facts[cause].past:
                met[name] = True
    return sorted(met)


def form_fault(facts, name, parts, below):
    """The first of "purse", "clash", "last" and "number" that is wrong with the name; None if its form is right."""
    purse, number, _, _, causes = parts
    for at, cause in enumerate(causes):
        if cause is not None and facts[cause].parts[0] != at:
            return ("purse", name, at)
    pair = least_clash(facts, below)
    if pair is not None:
        return ("clash", name, pair[0], pair[1])
    lasts = lasts_among(facts, below, len(causes))
    for at, cause in enumerate(causes):
        if cause != lasts[at]:
            return ("last", name, at)
    if number != number_of(facts, lasts[purse]) + 1:
        return ("number", name)
    return None


def number_of(facts, last):
    """The number of the payment, 0 for None."""
    if last is None:
        return 0
    return facts[last].parts[1]


def least_clash(facts, names):
    """The least pair of the ascending payments that clash, None if there is none."""
    firsts = {}
    pairs = []
    for name in names:
        place = facts[name].parts[:2]
        if place in firsts:
            pairs.append((firsts[place], name))
        else:
            firsts[place] = name
    return min(pairs, default=None)


def lasts_among(facts, names, many):
    """The list with, for each of so many purses, its payment with the greatest number, None if there is none."""
    lasts = [None] * many
    for name in names:
        purse, number = facts[name].parts[:2]
        if number > number_of(facts, lasts[purse]):
            lasts[purse] = name
    return lasts


def purses_behind(bank, facts, names):
    """The list of what is in the purses behind these payments, each done once."""
    purses = list(bank[0])
    for name in names:
        move(purses, facts[name].parts)
    return purses


def move(purses, parts):
    """Does the payment in this list of what is in the purses."""
    purse, _, to, amount, _ = parts
    purses[purse] -= amount
    purses[to] += amount
