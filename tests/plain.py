"""The words of the document on payments and lots, done plainly and slowly, to hold the program against."""

from itertools import combinations, permutations


class Plain:
    """One trust and bank, looked at through the contents alone."""

    def __init__(self, trust, bank):
        self.trust = trust
        self.bank = bank
        self.purses = len(bank[0])
        self.pasts = {}

    def parts(self, name):
        """(purse, number, to, amount, causes) or None; contents never hold True, False or too long numbers."""
        content = self.trust.content(name)
        if not isinstance(content, tuple) or len(content) != 6 or content[0] != "pay":
            return None
        purse, number, to, amount, causes = content[1:]
        if not all(isinstance(item, int) for item in (purse, number, to, amount)):
            return None
        if not 0 <= purse < self.purses or not 0 <= to < self.purses or number < 1 or amount < 1:
            return None
        if not isinstance(causes, tuple) or len(causes) != self.purses:
            return None
        if not all(cause is None or self.trust.is_name(cause) for cause in causes):
            return None
        return purse, number, to, amount, causes

    def past(self, name):
        """The set of the past; a content never changes, so it is looked for once."""
        if name not in self.pasts:
            found = {name}
            parts = self.parts(name)
            for cause in () if parts is None else parts[4]:
                if cause is not None:
                    found |= self.past(cause)
            self.pasts[name] = frozenset(found)
        return self.pasts[name]

    def below(self, name):
        """The past, itself left out."""
        return self.past(name) - {name}

    def place(self, name):
        """The purse and number."""
        return self.parts(name)[:2]

    def clashes(self, names):
        """The ascending list of the pairs, one less than other, that clash."""
        return [(one, other) for one, other in combinations(sorted(names), 2) if self.place(one) == self.place(other)]

    def last(self, names, purse):
        """The payment of the purse with the greatest number, None if there is none."""
        own = [name for name in names if self.place(name)[0] == purse]
        return max(own, key=lambda name: self.place(name)[1], default=None)

    def purses_behind(self, names):
        """The tuple of what is in the purses."""
        held = list(self.bank[0])
        for name in names:
            purse, _, to, amount, _ = self.parts(name)
            held[purse] -= amount
            held[to] += amount
        return tuple(held)

    def found(self, name):
        """What the payment finds."""
        return self.purses_behind(self.below(name))[self.parts(name)[0]]

    def fault_at(self, name):
        """What is wrong with this name, all below it being right."""
        if self.parts(name) is None:
            return ("outer", name)
        purse, number, _, amount, causes = self.parts(name)
        below = self.below(name)
        for at in range(self.purses):
            if causes[at] is not None and self.place(causes[at])[0] != at:
                return ("purse", name, at)
        if self.clashes(below):
            return ("clash", name, *self.clashes(below)[0])
        for at in range(self.purses):
            if causes[at] != self.last(below, at):
                return ("last", name, at)
        if number != (1 if causes[purse] is None else self.place(causes[purse])[1] + 1):
            return ("number", name)
        if self.found(name) < amount:
            return ("amount", name, self.found(name))
        return None

    def fault(self, name):
        """What is wrong with the payment."""
        for one in sorted(self.past(name)):
            if self.fault_at(one) is not None:
                return self.fault_at(one)
        return None

    def has_form(self, name):
        """Whether all of the past has the outer form, right causes, and right numbers; amounts play no part."""
        past = self.past(name)
        if any(self.parts(one) is None for one in past):
            return False
        return all((self.fault_at(one) or ("amount",))[0] == "amount" for one in past)

    def is_lot(self, names):
        """Whether these names, in whatever sequence, are those of a lot."""
        if any(self.parts(name) is None or not self.has_form(name) for name in names):
            return False
        return all(self.past(name) <= set(names) for name in names) and not self.clashes(set(names))

    def lots_of(self, names):
        """All lots out of these names of payments that have the form, as ascending tuples."""
        found = []
        for many in range(len(names) + 1):
            for some in combinations(sorted(names), many):
                if all(self.past(name) <= set(some) for name in some) and not self.clashes(some):
                    found.append(some)
        return found

    def sequences(self, lot):
        """All sequences of the lot."""
        return [row for row in permutations(lot) if self.in_sequence(row)]

    def in_sequence(self, row):
        """Whether each stands behind its causes."""
        return all(self.below(name) <= set(row[:at]) for at, name in enumerate(row))

    def moments(self, row):
        """What is in the purses at each moment."""
        return [self.purses_behind(row[:at]) for at in range(len(row) + 1)]

    def overdraws(self, row):
        """The places at which a payment overdraws in the sequence."""
        held = self.moments(row)
        return [at for at, name in enumerate(row) if held[at][self.parts(name)[0]] < self.parts(name)[3]]
