"""Purses of several owners: charters, who can pay and who can stop it, and splits of the owners over proposals."""

from itertools import combinations

from pursesapart.checks import check_bank, check_purse, is_ascending, is_number_below, is_number_from
from pursesapart.errors import BadCharter, BadLeast, BadMany, BadOwner, BadOwners, BadProposer, BadProposers, BadSplit
from pursesapart.payments import payment_of
from pursesapart.trust import check_both

MOST_OWNERS = 6


def is_charter(value):
    """Whether any value is a charter: (many, proposers, lots)."""
    if not isinstance(value, tuple) or len(value) != 3:
        return False
    many, proposers, lots = value
    if not is_number_of_owners(many) or not are_owners(many, proposers) or not proposers:
        return False
    if not isinstance(lots, tuple) or not lots:
        return False
    if not all([are_owners(many, lot) and len(lot) > 0 for lot in lots]) or not is_ascending(lots):
        return False
    return not any([has_all(one, other) for one in lots for other in lots if one != other])


def is_number_of_owners(value):
    """Whether any value can be the number of the owners of a shared purse."""
    return is_number_from(value, 1) and value <= MOST_OWNERS


def are_owners(many, value):
    """Whether any value is an ascending tuple of unlike owners of so many, perhaps of none."""
    if not isinstance(value, tuple) or not all([is_number_below(owner, many) for owner in value]):
        return False
    return is_ascending(value)


def check_charter(charter):
    """BadCharter unless it is one."""
    if not is_charter(charter):
        raise BadCharter("a charter is a tuple (many, proposers, lots)")


def has_all(owners, wanted):
    """Whether all of the wanted ones are among the owners."""
    return all([owner in owners for owner in wanted])


def has_lot(charter, owners):
    """Whether all owners of some lot are among these."""
    return any([has_all(owners, lot) for lot in charter[2]])


def can_pay(charter, owners):
    """Whether some proposer and all of some lot are among these owners."""
    return any([proposer in owners for proposer in charter[1]]) and has_lot(charter, owners)


def signs(charter, proposer, owners):
    """Whether what the proposer has proposed is signed if just these owners have sealed it."""
    check_charter(charter)
    if not is_number_below(proposer, charter[0]) or proposer not in charter[1]:
        raise BadProposer("one who may propose is wanted")
    if not isinstance(owners, (list, tuple)) or not all([is_number_below(owner, charter[0]) for owner in owners]):
        raise BadOwners("a list of owners is wanted")
    return proposer in owners and has_lot(charter, owners)


def sets_of_owners(many):
    """The list of all sets of so many owners, each an ascending tuple."""
    sets = []
    for mask in range(1 << many):
        sets.append(tuple([owner for owner in range(many) if mask >> owner & 1]))
    return sets


def without_one(owners):
    """The list of these owners with one of them left out, for each of them."""
    return [owners[:at] + owners[at + 1:] for at in range(len(owners))]


def payers(charter):
    """The ascending tuple of the least sets of owners that can pay alone."""
    check_charter(charter)
    least = []
    for owners in sets_of_owners(charter[0]):
        if can_pay(charter, owners) and not any([can_pay(charter, fewer) for fewer in without_one(owners)]):
            least.append(owners)
    return tuple(sorted(least))


def stoppers(charter):
    """The ascending tuple of the least sets of owners without whom nobody pays."""
    paying = payers(charter)
    least = []
    for owners in sets_of_owners(charter[0]):
        if meets_all(owners, paying) and not any([meets_all(fewer, paying) for fewer in without_one(owners)]):
            least.append(owners)
    return tuple(sorted(least))


def meets_all(owners, sets):
    """Whether an owner of each of the sets is among these."""
    return all([any([owner in owners for owner in one]) for one in sets])


def counting_charter(many, proposers, least):
    """The charter whose lots are all sets of least owners."""
    if not is_number_of_owners(many):
        raise BadMany("a number of owners from 1 to 6 is wanted")
    if not are_owners(many, proposers) or not proposers:
        raise BadProposers("an ascending tuple of owners, one at least, is wanted")
    if not is_number_from(least, 1) or least > many:
        raise BadLeast("a number from 1 to that of the owners is wanted")
    return (many, proposers, lots_of_size(many, least))


def lots_of_size(many, size):
    """The ascending tuple of all sets of so many owners that have this size."""
    return tuple(combinations(range(many), size))


def owner_of(bank, purse, owner):
    """Who this owner of a shared purse is for a Trust."""
    check_bank(bank)
    check_purse(bank, purse)
    if not is_number_below(owner, MOST_OWNERS):
        raise BadOwner("an owner of a shared purse is told by a number from 0 to 5")
    return ("owner", purse + owner * len(bank[0]))


def signed_by(trust, bank, charter, payment):
    """The ascending tuple of the owners of its purse that have sealed the payment."""
    check_both(trust, bank)
    check_charter(charter)
    purse = payment_of(trust, bank, payment)[0]
    return tuple([owner for owner in range(charter[0]) if trust.sealed(owner_of(bank, purse, owner), payment)])


def is_signed(trust, bank, charter, payment):
    """Whether some proposer and all of some lot have sealed the payment."""
    return can_pay(charter, signed_by(trust, bank, charter, payment))


def is_split(charter, value):
    """Whether any value is a split: for each owner, the proposer whose proposal it has sealed."""
    check_charter(charter)
    if not isinstance(value, tuple) or len(value) != charter[0]:
        return False
    if not all([is_number_below(head, charter[0]) for head in value]):
        return False
    return all([head in charter[1] and value[head] == head for head in value])


def signed_heads(charter, split):
    """The ascending tuple of the heads whose proposals are signed in the split."""
    if not is_split(charter, split):
        raise BadSplit("a split of the charter is wanted")
    return heads_signed(charter, split)


def heads_signed(charter, split):
    """The heads of what is known to be a split whose proposals are signed."""
    signed = []
    for head in charter[1]:
        if has_lot(charter, followers(split, head)):
            signed.append(head)
    return tuple(signed)


def followers(split, head):
    """The list of the owners whose items are the head."""
    return [owner for owner, item in enumerate(split) if item == head]


def splits_of(charter):
    """The ascending list of all splits of the charter."""
    many, proposers, _ = charter
    return sorted(rows_of_choices(list(range(many)), proposers, []))


def rows_of_choices(owners, proposers, others):
    """The list of all rows with, for each of the owners, whose proposal it seals.

    That is its own one, if it is one of proposers, or that of another one who has proposed, or of one of others.
    """
    rows = []
    for mask in range(1 << len(proposers)):
        heads = [proposer for at, proposer in enumerate(proposers) if mask >> at & 1]
        some = [()]
        for owner in owners:
            choices = heads + others
            if owner in heads:
                choices = [owner]
            some = [row + (choice,) for row in some for choice in choices]
        rows.extend(some)
    return rows


def torn_split(charter):
    """The least split in which not just one head's proposal is signed, None if there is none."""
    check_charter(charter)
    for split in splits_of(charter):
        if len(heads_signed(charter, split)) != 1:
            return split
    return None


def deciders(charter):
    """The ascending tuple of the owners such that in each split what they have sealed is signed, and nothing else."""
    check_charter(charter)
    splits = splits_of(charter)
    outcomes = [heads_signed(charter, split) for split in splits]
    pairs = list(zip(splits, outcomes))
    return tuple([owner for owner in range(charter[0]) if all([found == (split[owner],) for split, found in pairs])])
