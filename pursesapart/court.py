"""The court: who is named by what was sealed, and who is harmed."""

from pursesapart.checks import are_ascending_members, check_bank, need_of
from pursesapart.errors import BadBooks, BadCertificate, BadMembers, BadVote, NoClash
from pursesapart.facts import fact_of, facts_with, least_clash, named_causes, purses_behind
from pursesapart.trust import check_both
from pursesapart.votes import checked_ballot, is_certificate


def named(trust, bank, votes):
    """The ascending tuple of pairs (member, paper) of those whom the votes convict."""
    check_both(trust, bank)
    if not isinstance(votes, (list, tuple)):
        raise BadVote("a list of names of votes is wanted")
    ballots = {}
    for vote in votes:
        ballots[vote] = checked_ballot(trust, bank, vote)
    by_member = {}
    for vote in sorted(ballots):
        by_member.setdefault(ballots[vote][0], []).append(vote)
    pairs = []
    for member in sorted(by_member):
        paper = paper_against(trust, bank, by_member[member], ballots)
        if paper is not None:
            pairs.append((member, paper))
    return tuple(pairs)


def paper_against(trust, bank, votes, ballots):
    """The paper that the ascending unlike votes of one member make, None if they make none."""
    firsts = {}
    pairs = []
    for vote in votes:
        fact = fact_of(trust, bank, ballots[vote][1])
        if fact.fault is not None:
            return ("wrong", vote)
        place = fact.parts[:2]
        if place in firsts:
            pairs.append((firsts[place], vote))
        else:
            firsts[place] = vote
    if not pairs:
        return None
    lesser, greater = min(pairs)
    return ("twice", lesser, greater)


def clash_papers(trust, bank, one, other):
    """The ascending tuple of pairs (member, paper) of those who voted in both certificates, whose payments clash."""
    check_certificate(trust, bank, one)
    check_certificate(trust, bank, other)
    if not are_clashing(trust, bank, one[0], other[0]):
        raise NoClash("certificates of payments that clash are wanted")
    return papers_of_clash(trust, one, other)


def check_certificate(trust, bank, value):
    """BadCertificate unless it is one."""
    if not is_certificate(trust, bank, value):
        raise BadCertificate("a certificate is wanted")


def are_clashing(trust, bank, one, other):
    """Whether the two payments are unlike, and have one purse and one number."""
    return one != other and fact_of(trust, bank, one).parts[:2] == fact_of(trust, bank, other).parts[:2]


def papers_of_clash(trust, one, other):
    """The papers of two certificates whose payments clash."""
    firsts = {trust.content(vote)[1]: vote for vote in one[1]}
    pairs = []
    for vote in other[1]:
        member = trust.content(vote)[1]
        if member in firsts:
            pairs.append((member, ("twice", min(vote, firsts[member]), max(vote, firsts[member]))))
    return tuple(sorted(pairs))


def wrong_papers(trust, bank, certificate):
    """The ascending tuple of pairs (member, paper) of all voters, () if the payment is right."""
    check_certificate(trust, bank, certificate)
    payment, votes = certificate
    if fact_of(trust, bank, payment).fault is None:
        return ()
    return tuple(sorted([(trust.content(vote)[1], ("wrong", vote)) for vote in votes]))


def clash_lots(bank, members):
    """A pair of lots of as many members as are wanted, with just these in common; None if there is none."""
    check_bank(bank)
    if not isinstance(members, tuple) or not are_ascending_members(bank, members):
        raise BadMembers("an ascending tuple of unlike members is wanted")
    lacking = need_of(bank) - len(members)
    others = [member for member in range(bank[1]) if member not in members]
    if lacking < 0 or 2 * lacking > len(others):
        return None
    one = list(members) + others[:lacking]
    other = list(members) + others[lacking:2 * lacking]
    return (tuple(sorted(one)), tuple(sorted(other)))


def judged(trust, bank, books):
    """What is to be said of all payments in the books: that one is wrong, that two clash, or that they are a lot."""
    met = met_in(trust, bank, books)
    payments = sorted(met)
    facts = trust.facts_for(bank)
    for payment in payments:
        if facts[payment].fault is not None:
            return ("wrong", payment, wrong_papers(trust, bank, met[payment]))
    clash = least_clash(facts, payments)
    if clash is not None:
        one, other = clash
        return ("clash", one, other, papers_of_clash(trust, met[one], met[other]))
    return ("lot", tuple(payments))


def met_in(trust, bank, books):
    """BadBooks unless it is a list of books: the dict from their payments to the certificates met first."""
    check_both(trust, bank)
    if not isinstance(books, (list, tuple)):
        raise BadBooks("a list of books is wanted")
    met = {}
    for book in books:
        check_listed(trust, bank, book)
        for certificate in book:
            met.setdefault(certificate[0], certificate)
    return met


def check_listed(trust, bank, book):
    """BadBooks unless it is a list of certificates with one for each cause of each payment."""
    if not isinstance(book, (list, tuple)):
        raise BadBooks("each book is a list of certificates")
    if not all([is_certificate(trust, bank, item) for item in book]):
        raise BadBooks("a book has certificates only")
    here = {item[0]: True for item in book}
    for payment in here:
        if not all([cause in here for cause in named_causes(fact_of(trust, bank, payment).parts)]):
            raise BadBooks("a book has a certificate for each cause of each payment")


def sums_told(trust, bank, books):
    """The tuple of what is in the purses behind all payments in the books, perhaps below 0."""
    payments = list(met_in(trust, bank, books))
    return tuple(purses_behind(bank, trust.facts_for(bank), payments))


def most_overdrawn(trust, bank, books):
    """The tuple with, for each purse, the amounts of all its payments less those of its dearest way."""
    payments = sorted(met_in(trust, bank, books))
    facts = facts_with(trust, bank, payments)
    paid = [0] * len(bank[0])
    dearest = [0] * len(bank[0])
    # The causes of a payment are less than itself: what a way to one of them costs is known ahead.
    costs = {}
    for payment in payments:
        purse, number, _, amount, causes = facts[payment].parts
        paid[purse] += amount
        cause = causes[purse]
        if number == 1:
            costs[payment] = amount
        elif cause in costs and facts[cause].parts[:2] == (purse, number - 1):
            costs[payment] = costs[cause] + amount
        dearest[purse] = max(dearest[purse], costs.get(payment, 0))
    return tuple([paid[purse] - dearest[purse] for purse in range(len(paid))])


def forged(trust, bank, books):
    """The ascending list of the payments in the books that are not sealed by their owners."""
    return [payment for payment in sorted(met_in(trust, bank, books)) if not is_sealed(trust, bank, payment)]


def is_sealed(trust, bank, payment):
    """Whether the payment is sealed by its owner."""
    return trust.sealed(("owner", fact_of(trust, bank, payment).parts[0]), payment)


def owners_named(trust, bank, books):
    """The ascending tuple of pairs of a purse and its least two sealed payments in the books that clash."""
    payments = [payment for payment in sorted(met_in(trust, bank, books)) if is_sealed(trust, bank, payment)]
    facts = trust.facts_for(bank)
    pairs = []
    for purse in range(len(bank[0])):
        clash = least_clash(facts, [payment for payment in payments if facts[payment].parts[0] == purse])
        if clash is not None:
            pairs.append((purse, clash))
    return tuple(pairs)
