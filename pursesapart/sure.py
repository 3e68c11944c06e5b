"""What is surely booked, what can be and what never can, from votes that are known, if few members lie."""

from pursesapart.checks import are_ascending_members, is_member, need_of
from pursesapart.court import named
from pursesapart.errors import BadPayment, BadPayments, BadVotes, MoreLie
from pursesapart.facts import facts_with, least_clash
from pursesapart.payments import is_right
from pursesapart.trust import check_both
from pursesapart.votes import ballot_of


class Known:
    """Votes that are known, what their members owe by them, and who is against what.

    wanted has all names of the pasts of the wanted payments. The members of liars are taken to lie, whatever
    else: so the others have voted for right payments alone.
    """

    def __init__(self, trust, bank, ballots, liars, wanted):
        self.trust = trust
        self.bank = bank
        self.lies = bank[2]
        self.ballots = ballots
        self.liars = liars
        self.wanted = {name: True for name in wanted}
        self.facts = facts_with(trust, bank, list(wanted) + [ballot[1] for ballot in ballots.values()])
        honest = {vote: ballot for vote, ballot in ballots.items() if ballot[0] not in liars}
        self._voters = self._voters_by_place(honest)
        names = {name: True for name in wanted}
        for _, payment in honest.values():
            for name in self.facts[payment].past[:-1]:
                names[name] = True
        self._bits = {name: 1 << at for at, name in enumerate(sorted(names))}
        self._below = {ballot[1]: self._mask_of(self.facts[ballot[1]].past[:-1]) for ballot in honest.values()}
        self._honest = honest
        self._owed = self._owed_masks()
        self._showing = {}
        self._groups = self._groups_that_clash()
        self._against = {name: self.members_against(name) for name in self._bits}

    def members_against(self, payment):
        """The ascending list of the members, liars left out, with votes for what clashes with a right payment."""
        members = {}
        for rival, voters in self._voters.get(self.facts[payment].parts[:2], {}).items():
            if rival != payment:
                for member in voters:
                    members[member] = True
        return sorted(members)

    def shows(self, payment, vote, taken):
        """Whether any two values are a payment and what shows that it is owed, those taken being left out."""
        if not self.trust.is_name(payment):
            return False
        if vote is None:
            return payment in self.wanted
        if not self.trust.is_name(vote) or vote not in self.ballots:
            return False
        member, later = self.ballots[vote]
        return member not in taken and later != payment and payment in self.facts[later].past

    def reason_against(self, taken):
        """The pair of a reason why not just these lie and the members one of whom must lie too; None if they may."""
        owed = self._mask_of(list(self.wanted))
        for member, mask in self._owed.items():
            if member not in taken:
                owed = owed | mask
        for group in self._groups:
            both = [name for name in group if self._bits[name] & owed]
            if len(both) > 1:
                return self._clash_reason(both[0], both[1], taken)
        for payment, members in self._against.items():
            against = [member for member in members if member not in taken]
            if len(against) > self.lies and self._bits[payment] & owed:
                return self._against_reason(payment, against, taken)
        return None

    def _clash_reason(self, one, other, taken):
        vote = self._vote_owing(one, taken)
        second = self._vote_owing(other, taken)
        members = {self.ballots[shown][0]: True for shown in (vote, second) if shown is not None}
        return (("clash", one, other, vote, second), sorted(members))

    def _against_reason(self, payment, against, taken):
        vote = self._vote_owing(payment, taken)
        reason = ("against", payment, vote)
        if vote is None:
            return (reason, against[:self.lies + 1])
        member = self.ballots[vote][0]
        others = [one for one in against if one != member]
        # Who is against what it owes itself counts as one of those against.
        many = self.lies + 1 - against.count(member)
        return (reason, [member] + others[:many])

    def _vote_owing(self, payment, taken):
        """None for what is wanted, otherwise a vote, not of those taken, by which the payment is owed."""
        if payment in self.wanted:
            return None
        if payment not in self._showing:
            self._showing[payment] = self._votes_showing(payment)
        return min([vote for member, vote in self._showing[payment].items() if member not in taken])

    def _votes_showing(self, payment):
        """The dict from each member to its first vote by which the payment is owed."""
        votes = {}
        for vote, (member, later) in self._honest.items():
            if self._below[later] & self._bits[payment]:
                votes.setdefault(member, vote)
        return votes

    def _voters_by_place(self, honest):
        voters = {}
        for member, payment in honest.values():
            rivals = voters.setdefault(self.facts[payment].parts[:2], {})
            rivals.setdefault(payment, {})[member] = True
        return voters

    def _mask_of(self, names):
        return sum([self._bits[name] for name in names])

    def _owed_masks(self):
        masks = {}
        for member, payment in self._honest.values():
            masks[member] = masks.get(member, 0) | self._below[payment]
        return masks

    def _groups_that_clash(self):
        groups = {}
        for name in self._bits:
            groups.setdefault(self.facts[name].parts[:2], []).append(name)
        return [group for group in groups.values() if len(group) > 1]


def ballots_of(trust, bank, known):
    """BadTrust, BadBank, BadVotes: the dict from the known votes to their pairs (member, payment)."""
    check_both(trust, bank)
    if not isinstance(known, (list, tuple)):
        raise BadVotes("a list of names of votes is wanted")
    ballots = {}
    for vote in known:
        ballot = ballot_of(trust, bank, vote)
        if ballot is None:
            raise BadVotes("names of votes are wanted")
        ballots[vote] = ballot
    return ballots


def convicted_by(trust, bank, ballots):
    """The ascending tuple of the members against whom these votes make papers."""
    return tuple([member for member, _ in named(trust, bank, list(ballots))])


def liars_in(trust, bank, known):
    """The ascending tuple of the members against whom known votes make papers."""
    return convicted_by(trust, bank, ballots_of(trust, bank, known))


def ballots_and_liars(trust, bank, known):
    """BadTrust, BadBank, BadVotes and MoreLie: the known ballots, and the members that they convict."""
    ballots = ballots_of(trust, bank, known)
    liars = convicted_by(trust, bank, ballots)
    if len(liars) > bank[2]:
        raise MoreLie(liars)
    return ballots, liars


def known_for(trust, bank, known, payments):
    """The errors of may_be_booked: the Known for these wanted payments."""
    ballots, liars = ballots_and_liars(trust, bank, known)
    if not isinstance(payments, (list, tuple)):
        raise BadPayments("a list of payments is wanted")
    if not all([is_right(trust, bank, payment) for payment in payments]):
        raise BadPayments("right payments are wanted")
    facts = facts_with(trust, bank, payments)
    wanted = {}
    for payment in payments:
        for name in facts[payment].past:
            wanted[name] = True
    if least_clash(facts, sorted(wanted)) is not None:
        raise BadPayments("payments of whose pasts none clash are wanted")
    return Known(trust, bank, ballots, liars, list(wanted))


def may_be_booked(trust, bank, known, payments):
    """A lot of liars with whom all these may be booked, or a tree that tells why there is none."""
    votes = known_for(trust, bank, known, payments)
    liars, tree = search(votes, votes.liars, {})
    if liars is not None:
        return ("can", liars)
    return ("never", tree)


def search(votes, taken, met):
    """The pair of a possible lot of liars that has those taken and None, or of None and a tree.

    met has what was found out for wider lots: many ways lead to one lot.
    """
    if len(taken) > votes.lies:
        return (None, None)
    found = votes.reason_against(taken)
    if found is None:
        return (taken, None)
    reason, members = found
    branches = []
    for member in members:
        wider = tuple(sorted(taken + (member,)))
        if wider not in met:
            met[wider] = search(votes, wider, met)
        liars, tree = met[wider]
        if liars is not None:
            return (liars, None)
        branches.append((member, tree))
    return (None, (reason, tuple(branches)))


def is_may(trust, bank, known, payments, value):
    """Whether any value is a pair that may_be_booked can tell."""
    votes = known_for(trust, bank, known, payments)
    if not isinstance(value, tuple) or len(value) != 2:
        return False
    if value[0] == "can":
        return is_possible(votes, votes.liars, value[1])
    return value[0] == "never" and is_tree(votes, votes.liars, value[1])


def is_possible(votes, taken, value):
    """Whether any value is a possible lot of liars that has all of those taken."""
    if not isinstance(value, tuple) or not are_ascending_members(votes.bank, value) or len(value) > votes.lies:
        return False
    return all([member in value for member in taken]) and votes.reason_against(value) is None


def is_tree(votes, taken, value):
    """Whether any value is a tree where these members are taken."""
    if len(taken) > votes.lies:
        return value is None
    if not isinstance(value, tuple) or len(value) != 2:
        return False
    reason, branches = value
    if not are_branches(votes.bank, taken, branches):
        return False
    if not is_reason(votes, taken, reason, [member for member, _ in branches]):
        return False
    for member, tree in branches:
        if not is_tree(votes, taken + (member,), tree):
            return False
    return True


def are_branches(bank, taken, value):
    """Whether any value is a tuple of pairs, the first of each a member: these unlike, and none of them taken."""
    if not isinstance(value, tuple) or not all([isinstance(item, tuple) and len(item) == 2 for item in value]):
        return False
    members = [item[0] for item in value]
    if not all([is_member(bank, member) and member not in taken for member in members]):
        return False
    return len({member: True for member in members}) == len(members)


def is_reason(votes, taken, value, members):
    """Whether any value is a reason for branches with just these members, none of whom is taken."""
    if not isinstance(value, tuple):
        return False
    if len(value) == 3:
        return value[0] == "against" and is_against(votes, taken, value, members)
    return len(value) == 5 and value[0] == "clash" and is_clash(votes, taken, value, members)


def is_against(votes, taken, reason, members):
    """Whether the parts of a reason "against" are as told for these members."""
    _, payment, vote = reason
    if not votes.shows(payment, vote, taken):
        return False
    against = votes.members_against(payment)
    others = members
    if vote is not None:
        member = votes.ballots[vote][0]
        if member not in members:
            return False
        if len(members) == votes.lies + 2:
            others = [one for one in members if one != member]
    return len(others) == votes.lies + 1 and all([one in against for one in others])


def is_clash(votes, taken, reason, members):
    """Whether the parts of a reason "clash" are as told for these members."""
    _, one, other, vote, second = reason
    if not votes.shows(one, vote, taken) or not votes.shows(other, second, taken):
        return False
    if one == other or votes.facts[one].parts[:2] != votes.facts[other].parts[:2]:
        return False
    shown = {votes.ballots[name][0]: True for name in (vote, second) if name is not None}
    return bool(shown) and sorted(shown) == sorted(members)


def known_about(trust, bank, known, payment):
    """The errors of surely_booked: the Known, nothing being wanted, and the members that are taken at first."""
    ballots, liars = ballots_and_liars(trust, bank, known)
    if not is_right(trust, bank, payment):
        raise BadPayment("a right payment is wanted")
    votes = Known(trust, bank, ballots, liars, [])
    taken = {member: True for member in liars}
    for member, later in ballots.values():
        if later != payment and payment in votes.facts[later].past:
            taken[member] = True
    return votes, tuple(sorted(taken))


def has_enough(votes, payment):
    """Whether enough unlike members have known votes for the payment."""
    voters = {member: True for member, voted in votes.ballots.values() if voted == payment}
    return len(voters) >= need_of(votes.bank)


def surely_booked(trust, bank, known, payment):
    """Whether there are votes enough, or a tree that tells why it is sure, or who may have lied."""
    votes, taken = known_about(trust, bank, known, payment)
    if has_enough(votes, payment):
        return ("votes",)
    liars, tree = search(votes, taken, {})
    if liars is not None:
        return ("open", liars)
    return ("sure", tree)


def is_sure(trust, bank, known, payment, value):
    """Whether any value is one that surely_booked can tell."""
    votes, taken = known_about(trust, bank, known, payment)
    if not isinstance(value, tuple) or not 1 <= len(value) <= 2:
        return False
    if has_enough(votes, payment):
        return len(value) == 1 and value[0] == "votes"
    if len(value) == 1:
        return False
    if value[0] == "sure":
        return is_tree(votes, taken, value[1])
    return value[0] == "open" and is_possible(votes, taken, value[1])
