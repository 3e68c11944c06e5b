"""The words of [110] to [112], done plainly, to hold the program against."""

from itertools import chain, combinations, product


def subsets(items):
    """All ascending tuples out of the ascending items."""
    items = list(items)
    return list(chain.from_iterable(combinations(items, many) for many in range(len(items) + 1)))


def all_charters(many):
    """All charters of so many owners."""
    lots = subsets(range(many))[1:]
    found = []
    rows = [()]
    for lot in lots:
        rows += [row + (lot,) for row in rows if not any(set(one) <= set(lot) or set(lot) <= set(one) for one in row)]
    for row in rows:
        if row:
            found += [(many, proposers, tuple(sorted(row))) for proposers in subsets(range(many))[1:]]
    return found


def some_charter(dice, many):
    """A charter of so many owners, drawn."""
    row = []
    for lot in dice.sample(subsets(range(many))[1:], dice.randint(1, 2 ** many - 1)):
        if not any(set(one) <= set(lot) or set(lot) <= set(one) for one in row):
            row.append(lot)
        if dice.random() < 0.15:
            break
    proposers = tuple(sorted(dice.sample(range(many), dice.randint(1, many))))
    return many, proposers, tuple(sorted(row))


def plain_has_lot(charter, owners):
    """Whether all of some lot are among them."""
    return any(set(lot) <= set(owners) for lot in charter[2])


def plain_can_pay(charter, owners):
    """Whether a proposer and a lot are among them."""
    return bool(set(charter[1]) & set(owners)) and plain_has_lot(charter, owners)


def least_of(sets):
    """Those of the sets that have no other one within."""
    return tuple(sorted(one for one in sets if not any(set(other) < set(one) for other in sets)))


def plain_payers(charter):
    """The words of payers."""
    return least_of([owners for owners in subsets(range(charter[0])) if plain_can_pay(charter, owners)])


def hitting(many, sets):
    """The least sets that have an owner of each of these."""
    return least_of([owners for owners in subsets(range(many)) if all(set(owners) & set(one) for one in sets)])


def plain_is_split(charter, split):
    """Whether a tuple of numbers, one for each owner, is a split."""
    return all(head in charter[1] and split[head] == head for head in split)


def plain_splits(charter):
    """All splits, ascending."""
    return [split for split in product(range(charter[0]), repeat=charter[0]) if plain_is_split(charter, split)]


def plain_heads(charter, split):
    """The heads that are signed."""
    heads = sorted(set(split))
    return tuple(head for head in heads
                 if plain_has_lot(charter, [owner for owner in range(charter[0]) if split[owner] == head]))


class PlainSharing:
    """The rules of one Sharing; a state is a triple (made, seals, votes), tuples that are parallel."""

    def __init__(self, bank, charter, false=(), liars=(), agreed=False, most=30):
        self.bank = bank
        self.charter = charter
        self.false = false
        self.liars = liars
        self.agreed = agreed
        self.most = most
        self.need = bank[1] - bank[2]
        self.met = {}

    def can(self, state, act):
        """Whether a tuple of this shape can be done."""
        made, seals, votes = state
        if act[0] == "propose":
            owner = act[1]
            if owner not in self.charter[1] or len(made) >= self.most:
                return False
            if owner in self.false:
                return True
            return not any(owner in owners for owners in seals) and not (self.agreed and made)
        who, at = act[1:]
        if at >= len(made):
            return False
        if act[0] == "sign":
            if who in seals[at]:
                return False
            if who in self.false:
                return True
            return not any(who in owners for owners in seals) and (not self.agreed or at == 0)
        if who in votes[at]:
            return False
        if who in self.liars:
            return True
        return not any(who in members for members in votes) and self.is_signed(state, at)

    def is_signed(self, state, at):
        """Whether the proposal is signed."""
        return state[0][at] in state[1][at] and plain_has_lot(self.charter, state[1][at])

    def do(self, state, act):
        """The state behind the act."""
        made, seals, votes = state
        if act[0] == "propose":
            return made + (act[1],), seals + (frozenset({act[1]}),), votes + (frozenset(),)
        rows = list(seals if act[0] == "sign" else votes)
        rows[act[2]] |= {act[1]}
        return (made, tuple(rows), votes) if act[0] == "sign" else (made, seals, tuple(rows))

    def acts(self, state):
        """All acts of the right shape, and some beyond."""
        owners, members, ats = range(self.charter[0]), range(self.bank[1]), range(len(state[0]))
        found = [("propose", owner) for owner in owners]
        found += [("sign", owner, at) for owner in owners for at in ats]
        return found + [("vote", member, at) for member in members for at in ats]

    def booked(self, state):
        """The proposals that are booked."""
        return tuple(at for at, members in enumerate(state[2]) if len(members) >= self.need)

    def signed(self, state):
        """The proposals that are signed."""
        return tuple(at for at in range(len(state[0])) if self.is_signed(state, at))

    def is_true(self, act):
        """Whether who does it keeps to its rules."""
        return act[1] not in (self.liars if act[0] == "vote" else self.false)

    def goes_on(self, state):
        """Whether those that keep to their rules can have a proposal booked from here."""
        key = self.alike(state)
        if key not in self.met:
            found = bool(self.booked(state))
            for act in self.acts(state):
                if not found and self.is_true(act) and self.can(state, act):
                    found = self.goes_on(self.do(state, act))
            self.met[key] = found
        return self.met[key]

    def alike(self, state):
        """A key that is the same for states alike but for the numbers of the members, where none of these lies."""
        if self.liars:
            return state
        rows = sorted(tuple(at for at, members in enumerate(state[2]) if member in members)
                      for member in range(self.bank[1]))
        return state[0], state[1], tuple(rows)

    def locked_states(self):
        """Whether some state that can be reached is locked."""
        start = ((), (), ())
        met, waiting = {self.alike(start)}, [start]
        while waiting:
            state = waiting.pop()
            if not self.goes_on(state):
                return True
            for act in self.acts(state):
                if self.can(state, act):
                    wider = self.do(state, act)
                    if self.alike(wider) not in met:
                        met.add(self.alike(wider))
                        waiting.append(wider)
        return False
