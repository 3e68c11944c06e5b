"""Votes of members for payments, and certificates made of them."""

from pursesapart.checks import is_member, need_of
from pursesapart.errors import BadCertificate, BadVote
from pursesapart.facts import fact_of
from pursesapart.trust import check_both, is_ascending_names


def is_vote(trust, bank, name):
    """Whether any value is the name of a vote."""
    check_both(trust, bank)
    return ballot_of(trust, bank, name) is not None


def ballot_of(trust, bank, name):
    """The pair (member, payment) of the vote with this name, None for any value that is none."""
    if not trust.is_name(name):
        return None
    content = trust.content(name)
    if not isinstance(content, tuple) or len(content) != 3 or content[0] != "vote":
        return None
    _, member, payment = content
    if not is_member(bank, member) or not trust.is_name(payment):
        return None
    if fact_of(trust, bank, payment).parts is None:
        return None
    if not trust.sealed(("member", member), name):
        return None
    return (member, payment)


def checked_ballot(trust, bank, name):
    """BadVote unless it is the name of a vote: its pair (member, payment)."""
    ballot = ballot_of(trust, bank, name)
    if ballot is None:
        raise BadVote("the name of a vote is wanted")
    return ballot


def is_certificate(trust, bank, value):
    """Whether any value is a pair of a payment and just as many votes for it as are wanted."""
    check_both(trust, bank)
    if not isinstance(value, tuple) or len(value) != 2:
        return False
    payment, votes = value
    if not trust.is_name(payment) or not is_ascending_names(trust, votes) or len(votes) != need_of(bank):
        return False
    ballots = [ballot_of(trust, bank, vote) for vote in votes]
    if None in ballots or not all([ballot[1] == payment for ballot in ballots]):
        return False
    return len({ballot[0]: True for ballot in ballots}) == len(ballots)


def voters_of(trust, bank, certificate):
    """The ascending tuple of the members that voted in the certificate."""
    if not is_certificate(trust, bank, certificate):
        raise BadCertificate("a certificate is wanted")
    return tuple(sorted([ballot_of(trust, bank, vote)[0] for vote in certificate[1]]))


def certificate_of(trust, bank, payment, votes):
    """The certificate of the payment by the least members that voted for it, None if they are too few."""
    check_both(trust, bank)
    if not isinstance(votes, (list, tuple)):
        raise BadVote("a list of names of votes is wanted")
    ballots = [checked_ballot(trust, bank, vote) for vote in votes]
    if not trust.is_name(payment):
        return None
    chosen = votes_by_payment(votes, ballots).get(payment, {})
    if len(chosen) < need_of(bank):
        return None
    return certificate_out_of(bank, payment, chosen)


def votes_by_payment(votes, ballots):
    """The dict from each payment voted for to the dict from the members to their votes for it."""
    chosen = {}
    for vote, (member, payment) in zip(votes, ballots):
        chosen.setdefault(payment, {})[member] = vote
    return chosen


def certificate_out_of(bank, payment, chosen):
    """The certificate by the least members of the dict from members, enough of them, to their votes."""
    least = sorted(chosen)[:need_of(bank)]
    return (payment, tuple(sorted([chosen[member] for member in least])))
