"""Webs of payments made by told random numbers: wholly right ones, and bent ones."""

import random

from pursesapart.trust import Trust
from tests.plain import Plain


def spread(dice, sides):
    """A number from 0 on below sides."""
    return dice.randrange(sides)


def content_after(plain, names, purse, to, amount):
    """The content of the payment with just these names, a lot, in its past."""
    last = tuple(plain.last(names, at) for at in range(plain.purses))
    number = 1 if last[purse] is None else plain.place(last[purse])[1] + 1
    return ("pay", purse, number, to, amount, last)


def some_lot(dice, plain, names):
    """A lot out of the names: the pasts of some of them that do not clash."""
    met = set()
    for name in dice.sample(names, len(names)):
        if dice.random() < 0.6 and plain.parts(name) is not None:
            wider = met | plain.past(name)
            if plain.is_lot(tuple(wider)):
                met = wider
    return met


def grow(seed, bank, many, poor=0.0, bent=0.0, free=True):
    """A plain view of a new trust and the list of so many names.

    poor is how often a payment takes more than it finds, bent how often its content is bent in a place; with
    free each payment may see whatever it likes, otherwise all that is there, so that nothing clashes.
    """
    dice = random.Random(seed)
    trust = Trust()
    plain = Plain(trust, bank)
    names = []
    while len(names) < many:
        seen = some_lot(dice, plain, names) if free else set(names)
        purse = spread(dice, plain.purses)
        held = plain.purses_behind(seen)[purse]
        amount = held + 1 + spread(dice, 3) if dice.random() < poor else 1 + spread(dice, max(held, 1))
        if amount < 1 or (amount > held and not poor):
            continue
        content = content_after(plain, seen, purse, spread(dice, plain.purses), amount)
        if dice.random() < bent:
            content = bend(dice, plain, names, content)
        name = trust.name(content)
        if name not in names:
            names.append(name)
    return plain, names


def bend(dice, plain, names, content):
    """The content with one place exchanged."""
    word, purse, number, to, amount, causes = content
    way = spread(dice, 6)
    if way == 0:
        return (word, purse, number + 1 + spread(dice, 2), to, amount, causes)
    if way == 1:
        return (word, purse, number, to, 0, causes)
    at = spread(dice, len(causes))
    chosen = [None, *names]
    if way > 2:
        chosen = [name for name in names if plain.parts(name) is not None and plain.place(name)[0] == at] or chosen
    return (word, purse, number, to, amount, causes[:at] + (dice.choice(chosen),) + causes[at + 1:])


def grow_lot(seed, bank, many, poor=0.0, seeing=0.4, most=9):
    """A plain view and the ascending tuple of a lot of at most so many payments, of whatever shape.

    seeing is how often a payment sees another one, most the greatest amount of those that are covered.
    """
    dice = random.Random(seed)
    trust = Trust()
    plain = Plain(trust, bank)
    lot = []
    for _ in range(many):
        seen = set()
        for name in dice.sample(lot, len(lot)):
            if dice.random() < seeing:
                seen |= plain.past(name)
        purse = spread(dice, plain.purses)
        own = plain.last(lot, purse)
        if own is not None:
            seen |= plain.past(own)
        held = plain.purses_behind(seen)[purse]
        amount = held + 1 + spread(dice, 2) if dice.random() < poor else 1 + spread(dice, min(most, max(held, 1)))
        if amount >= 1 and (amount <= held or poor):
            lot.append(trust.name(content_after(plain, seen, purse, spread(dice, plain.purses), amount)))
    return plain, tuple(sorted(lot))
