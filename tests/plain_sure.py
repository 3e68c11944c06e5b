"""The words of [100] and [101], done plainly, to hold the program against."""

from itertools import combinations


class PlainKnown:
    """Known votes over a plain view; payments are those that are wanted."""

    def __init__(self, plain, known, payments):
        self.plain = plain
        self.lies = plain.bank[2]
        self.members = range(plain.bank[1])
        self.ballots = {vote: plain.trust.content(vote)[1:] for vote in known}
        self.wanted = set().union(*[plain.past(payment) for payment in payments])

    def liars(self):
        """The members against whom there is a paper."""
        found = set()
        for member, payment in self.ballots.values():
            if self.plain.fault(payment) is not None or self.against(payment) & {member}:
                found.add(member)
        return tuple(sorted(found))

    def against(self, payment):
        """The members with votes for payments that clash with this one."""
        place = self.plain.place(payment)
        return {member for member, other in self.ballots.values()
                if other != payment and self.plain.parts(other) and self.plain.place(other) == place}

    def owed(self, lot):
        """The payments owed if these lie."""
        names = set(self.wanted)
        for member, payment in self.ballots.values():
            if member not in lot:
                names |= self.plain.below(payment)
        return names

    def is_possible(self, lot, first):
        """Whether the set of members is a possible lot that has all of the first ones."""
        if len(lot) > self.lies or not set(first) <= set(lot):
            return False
        owed = self.owed(lot)
        if self.plain.clashes(owed):
            return False
        return all(len(self.against(name) - set(lot)) <= self.lies for name in owed)

    def possible(self, first):
        """All possible lots."""
        lots = [lot for many in range(self.lies + 1) for lot in combinations(self.members, many)]
        return [lot for lot in lots if self.is_possible(lot, first)]

    def later_voters(self, payment):
        """The members with a known vote for another payment in whose past this one is."""
        return {member for member, other in self.ballots.values()
                if other != payment and payment in self.plain.past(other)}

    def voters(self, payment):
        """The members with a known vote for the payment."""
        return {member for member, other in self.ballots.values() if other == payment}

    def is_lot_told(self, value, first):
        """Whether any value is a possible lot, told as it should be."""
        if type(value) is not tuple or any(type(item) is not int for item in value):
            return False
        return list(value) == sorted(set(value)) and set(value) <= set(self.members) and self.is_possible(value, first)

    def is_tree(self, value, taken):
        """Whether any value is a tree for those taken."""
        if len(taken) > self.lies:
            return value is None
        if type(value) is not tuple or len(value) != 2 or type(value[1]) is not tuple:
            return False
        reason, branches = value
        if any(type(branch) is not tuple or len(branch) != 2 or type(branch[0]) is not int for branch in branches):
            return False
        members = [branch[0] for branch in branches]
        if len(set(members)) < len(members) or not set(members) <= set(self.members) - set(taken):
            return False
        if not self.is_reason(reason, set(members), taken):
            return False
        return all(self.is_tree(tree, set(taken) | {member}) for member, tree in branches)

    def shown(self, payment, vote, taken):
        """The set of the member of the vote, empty for None; False if the vote may not stand there."""
        if not self.plain.trust.is_name(payment):
            return False
        if vote is None:
            return set() if payment in self.wanted else False
        if not self.plain.trust.is_name(vote) or vote not in self.ballots:
            return False
        member, other = self.ballots[vote]
        if member in taken or other == payment or payment not in self.plain.past(other):
            return False
        return {member}

    def is_reason(self, reason, members, taken):
        """Whether any value is a reason for these branches."""
        if type(reason) is not tuple or not reason or type(reason[0]) is not str:
            return False
        if reason[0] == "against" and len(reason) == 3:
            shown = self.shown(reason[1], reason[2], taken)
            if shown is False:
                return False
            against = self.against(reason[1]) & members
            return any(set(some) == members or set(some) | shown == members and not shown & set(some)
                       for some in combinations(sorted(against), self.lies + 1) if shown <= members)
        if reason[0] == "clash" and len(reason) == 5:
            one, other = self.shown(reason[1], reason[3], taken), self.shown(reason[2], reason[4], taken)
            if one is False or other is False or reason[1] == reason[2]:
                return False
            if self.plain.place(reason[1]) != self.plain.place(reason[2]):
                return False
            return reason[3:] != (None, None) and members == one | other
        return False

    def is_may(self, value):
        """Whether any value is a pair that may_be_booked can tell."""
        if type(value) is not tuple or len(value) != 2 or type(value[0]) is not str:
            return False
        if value[0] == "can":
            return self.is_lot_told(value[1], self.liars())
        return value[0] == "never" and self.is_tree(value[1], set(self.liars()))

    def is_sure(self, payment, value):
        """Whether any value is one that surely_booked can tell; nothing is wanted here."""
        if type(value) is not tuple or not value or type(value[0]) is not str:
            return False
        if len(self.voters(payment)) >= self.plain.bank[1] - self.lies:
            return value == ("votes",)
        first = set(self.liars()) | self.later_voters(payment)
        if len(value) != 2:
            return False
        if value[0] == "open":
            return self.is_lot_told(value[1], first)
        return value[0] == "sure" and self.is_tree(value[1], first)


class Goings:
    """All that can go on if these members lie: which votes each other member can give, in some sequence."""

    def __init__(self, plain, liars, payments):
        self.plain = plain
        self.liars = liars
        self.honest = [member for member in range(plain.bank[1]) if member not in liars]
        self.payments = [name for name in sorted(payments) if plain.fault(name) is None]
        self.need = plain.bank[1] - plain.bank[2]

    def can_vote(self, done, member, payment):
        """Whether a member that keeps to its rules can vote now; all that lie voted for all ahead."""
        plain = self.plain
        own = [voted for one, voted in done if one == member]
        if any(plain.place(voted) == plain.place(payment) for voted in own):
            return False
        if not all(self.count(done, name) >= self.need for name in plain.below(payment)):
            return False
        return not plain.clashes(set().union(plain.below(payment), *(plain.below(voted) for voted in own)))

    def count(self, done, payment):
        """How many voted for it."""
        return len(self.liars) + sum(voted == payment for _, voted in done)

    def reach(self, votes, wanted):
        """Whether some going has all these votes of those that keep to their rules, and all wanted ones certified."""
        start = frozenset()
        met, waiting = {start}, [start]
        while waiting:
            done = waiting.pop()
            if votes <= done and all(self.count(done, name) >= self.need for name in wanted):
                return True
            for member in self.honest:
                for payment in self.payments:
                    if (member, payment) not in done and self.can_vote(done, member, payment):
                        wider = done | {(member, payment)}
                        if wider not in met:
                            met.add(wider)
                            waiting.append(wider)
        return False
