"""Papers, made of votes alone, that convict the member whose votes they are."""

from pursesapart.errors import BadPaper
from pursesapart.payments import is_right, payment_of
from pursesapart.trust import check_both
from pursesapart.votes import ballot_of, checked_ballot


def paper_of(trust, bank, one, other):
    """The paper "twice" that two votes of one member make, None if they make none."""
    check_both(trust, bank)
    member, payment = checked_ballot(trust, bank, one)
    second, rival = checked_ballot(trust, bank, other)
    if member != second or payment == rival:
        return None
    if payment_of(trust, bank, payment)[:2] != payment_of(trust, bank, rival)[:2]:
        return None
    return ("twice", min(one, other), max(one, other))


def wrong_paper(trust, bank, vote):
    """The paper "wrong" that a vote makes by itself, None if its payment is right."""
    check_both(trust, bank)
    _, payment = checked_ballot(trust, bank, vote)
    if is_right(trust, bank, payment):
        return None
    return ("wrong", vote)


def is_paper(trust, bank, value):
    """Whether any value is a paper of two votes or of one."""
    check_both(trust, bank)
    if not isinstance(value, tuple) or not 2 <= len(value) <= 3:
        return False
    votes = value[1:]
    if any([ballot_of(trust, bank, vote) is None for vote in votes]):
        return False
    if len(votes) == 1:
        return value == wrong_paper(trust, bank, votes[0])
    return value == paper_of(trust, bank, votes[0], votes[1])


def convicted(trust, bank, paper):
    """The number of the member that the paper convicts."""
    if not is_paper(trust, bank, paper):
        raise BadPaper("a paper is wanted")
    return ballot_of(trust, bank, paper[1])[0]
