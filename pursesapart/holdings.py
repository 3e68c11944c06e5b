"""Papers of the most and of the least that some purses hold together along the sequences of a lot."""

from pursesapart.checks import is_ascending, is_name_pair, is_number, is_number_from
from pursesapart.facts import named_causes, purses_behind
from pursesapart.flows import Flow


def is_part(facts, lot, value):
    """Whether any value is a lot of payments of the lot."""
    inside = {name: True for name in lot}
    if not isinstance(value, tuple):
        return False
    if not all([is_name_pair(name) and name in inside for name in value]):
        return False
    return is_ascending(value) and has_all_causes(facts, value)


def has_all_causes(facts, names):
    """Whether each cause of each of these payments is one of them."""
    inside = {name: True for name in names}
    for name in names:
        if not all([cause in inside for cause in named_causes(facts[name].parts)]):
            return False
    return True


def held_paper(bank, facts, lot, purses, word):
    """The paper of the "most" or the "least" that the purses hold together."""
    wanted, against = wanted_and_against(facts, lot, purses, word)
    flow = Flow(amounts_of(facts, wanted), amounts_of(facts, against), masks_below(facts, wanted, against))
    flow.fill()
    part = {}
    for one in flow.closed:
        for name in facts[wanted[one]].past:
            part[name] = True
    shares = []
    for at, other in enumerate(against):
        for one, share in flow.shares[at].items():
            shares.append((wanted[one], other, share))
    amount = amount_told(bank, purses, word, sum(flow.left))
    return (word, amount, tuple(sorted(part)), tuple(sorted(shares)))


def wanted_and_against(facts, lot, purses, word):
    """The pair of the lists of the payments that bring the purses nearer to the word, and away from it."""
    inward = []
    outward = []
    for name in lot:
        purse, _, to, _, _ = facts[name].parts
        if purse not in purses and to in purses:
            inward.append(name)
        elif purse in purses and to not in purses:
            outward.append(name)
    if word == "most":
        return inward, outward
    return outward, inward


def amounts_of(facts, names):
    """The list of the amounts of the payments."""
    return [facts[name].parts[3] for name in names]


def masks_below(facts, wanted, against):
    """The list with, for each wanted payment, the mask of those against, by their places, in its past."""
    places = {name: at for at, name in enumerate(against)}
    masks = []
    for one in wanted:
        masks.append(sum([1 << places[name] for name in facts[one].past if name in places]))
    return masks


def amount_told(bank, purses, word, free):
    """What the purses held at first, with what is free for the most, less it for the least."""
    first = sum([bank[0][purse] for purse in purses])
    if word == "most":
        return first + free
    return first - free


def is_held_paper(bank, facts, lot, purses, value):
    """Whether any value is a paper of the most or of the least that the purses hold together."""
    if not isinstance(value, tuple) or len(value) != 4:
        return False
    word, amount, part, shares = value
    if word not in ("most", "least") or not is_number(amount) or not is_part(facts, lot, part):
        return False
    behind = purses_behind(bank, facts, part)
    if amount != sum([behind[purse] for purse in purses]):
        return False
    wanted, against = wanted_and_against(facts, lot, purses, word)
    if not are_shares(facts, wanted, against, shares):
        return False
    free = sum(amounts_of(facts, wanted)) - sum([share[2] for share in shares])
    return amount == amount_told(bank, purses, word, free)


def are_shares(facts, wanted, against, value):
    """Whether any value is a tuple of shares between these payments, none of which shares more than it has."""
    if not isinstance(value, tuple):
        return False
    left = {name: facts[name].parts[3] for name in wanted}
    room = {name: facts[name].parts[3] for name in against}
    for item in value:
        if not is_share(facts, left, room, item):
            return False
        left[item[0]] -= item[2]
        room[item[1]] -= item[2]
    if min(left.values(), default=0) < 0 or min(room.values(), default=0) < 0:
        return False
    return is_ascending([item[:2] for item in value])


def is_share(facts, wanted, against, value):
    """Whether any value is a triple of a wanted payment, one against in its past, and a number from 1 on."""
    if not isinstance(value, tuple) or len(value) != 3:
        return False
    one, other, share = value
    if not is_name_pair(one) or one not in wanted or not is_name_pair(other) or other not in against:
        return False
    return other in facts[one].past and is_number_from(share, 1)
