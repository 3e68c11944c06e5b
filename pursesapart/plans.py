"""Plans: who is asked to vote for which payment, one step behind another, and what is booked by that."""

from pursesapart.checks import are_ascending_members, is_member, need_of
from pursesapart.errors import BadLiars, BadPlan
from pursesapart.facts import fact_of, named_causes
from pursesapart.trust import check_both
from pursesapart.votes import certificate_out_of


class Steps:
    """Steps that were done, one behind another, and what members that do not lie know by them."""

    def __init__(self, trust, bank, liars):
        self.trust = trust
        self.bank = bank
        self.liars = liars
        self.need = need_of(bank)
        self._done = {}
        self._voters = {}
        self._rivals = {}
        self._known = [{} for _ in range(bank[1])]

    def do(self, value):
        """Does the step if any value is one that can be done now: whether it is."""
        if not isinstance(value, tuple) or len(value) != 2 or not is_member(self.bank, value[0]):
            return False
        member, payment = value
        if not self.trust.is_name(payment) or value in self._done:
            return False
        fact = fact_of(self.trust, self.bank, payment)
        if fact.fault is not None:
            return False
        if member not in self.liars and not self._learns(member, payment, fact.parts):
            return False
        self._done[value] = True
        self._voters.setdefault(payment, {})[member] = True
        self._rivals.setdefault(fact.parts[:2], {})[payment] = True
        return True

    def voters(self, payment):
        """The ascending list of the members that have a step for the payment."""
        return sorted(self._voters.get(payment, {}))

    def voted_at(self, place):
        """The ascending list of the payments with this purse and number for which there is a step."""
        return sorted(self._rivals.get(place, {}))

    def booked(self):
        """The ascending list of the payments that are certified, and below which all are."""
        booked = {}
        for payment in sorted(self._voters):
            causes = named_causes(fact_of(self.trust, self.bank, payment).parts)
            if self._is_certified(payment) and all([cause in booked for cause in causes]):
                booked[payment] = True
        return list(booked)

    def _is_certified(self, payment):
        return len(self._voters.get(payment, {})) >= self.need

    def _learns(self, member, payment, parts):
        """Whether a member that does not lie can vote for a right payment; if so, it knows what is below it."""
        if not self.trust.sealed(("owner", parts[0]), payment):
            return False
        # The step itself is new, so any vote of the member for this purse and number clashes with it.
        if any([member in self._voters[rival] for rival in self.voted_at(parts[:2])]):
            return False
        known = self._known[member]
        unknown = self._unknown_below(known, parts)
        for place, name in unknown.items():
            if place in known or not self._is_certified(name):
                return False
        for place, name in unknown.items():
            known[place] = name
        return True

    def _unknown_below(self, known, parts):
        """The dict of what is below a right payment and not known, by purse and number."""
        unknown = {}
        waiting = named_causes(parts)
        while waiting:
            name = waiting.pop()
            lower = fact_of(self.trust, self.bank, name).parts
            if known.get(lower[:2]) != name and lower[:2] not in unknown:
                unknown[lower[:2]] = name
                waiting.extend(named_causes(lower))
        return unknown


def check_liars(trust, bank, liars):
    """BadTrust, BadBank, and BadLiars unless it is an ascending tuple of unlike members."""
    check_both(trust, bank)
    if not isinstance(liars, tuple) or not are_ascending_members(bank, liars):
        raise BadLiars("an ascending tuple of unlike members is wanted")


def steps_of(trust, bank, liars, value):
    """The Steps behind a plan, None for any value that is none."""
    if not isinstance(value, tuple):
        return None
    steps = Steps(trust, bank, liars)
    for item in value:
        if not steps.do(item):
            return None
    return steps


def checked_steps(trust, bank, liars, plan):
    """BadPlan unless it is a plan: the Steps behind it."""
    steps = steps_of(trust, bank, liars, plan)
    if steps is None:
        raise BadPlan("a plan is wanted")
    return steps


def is_plan(trust, bank, liars, value):
    """Whether any value is a plan."""
    check_liars(trust, bank, liars)
    return steps_of(trust, bank, liars, value) is not None


def booked_by(trust, bank, liars, plan):
    """The ascending tuple of the payments that are certified by the plan, and below which all are."""
    check_liars(trust, bank, liars)
    return tuple(checked_steps(trust, bank, liars, plan).booked())


def carry_out(trust, bank, liars, plan):
    """Seals the vote of each step: the list, by ascending payments, of the certificates of all that is booked."""
    check_liars(trust, bank, liars)
    steps = checked_steps(trust, bank, liars, plan)
    chosen = {}
    for member, payment in plan:
        vote = trust.name(("vote", member, payment))
        trust.seal(("member", member), vote)
        chosen.setdefault(payment, {})[member] = vote
    return [certificate_out_of(bank, payment, chosen[payment]) for payment in steps.booked()]
