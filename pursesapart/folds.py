"""What of a lot may be forgotten, and what is kept in its place for ever."""

from pursesapart.checks import is_row
from pursesapart.errors import BadKept, BadPart, StillHeld
from pursesapart.facts import Fact, lasts_among, least_clash, move, named_causes, number_of, parts_of, purses_behind
from pursesapart.holdings import is_part
from pursesapart.lots import facts_of_right_lot, lasts_of, row_of, totals
from pursesapart.trust import check_both


def holder_of(trust, bank, lot, part):
    """What holds the part in the lot: a payment here, or one that may come next; None if nothing does."""
    facts = facts_of_right_lot(trust, bank, lot)
    if not is_part(facts, lot, part):
        raise BadPart("a lot within the lot is wanted")
    inside = {name: True for name in part}
    for name in lot:
        if name not in inside and not sees(facts, name, inside):
            return ("here", name)
    for purse, last in enumerate(lasts_among(facts, lot, len(bank[0]))):
        if last is None or last in inside:
            some = least_without(bank, facts, part, purse)
            if some is not None:
                return ("next", purse, some)
    return None


def sees(facts, payment, part):
    """Whether all of the part is in the past of the payment."""
    return len([name for name in facts[payment].past if name in part]) == len(part)


def least_without(bank, facts, part, purse):
    """The least lot within the part, but not all of it, by which the purse can pay; None if there is none."""
    own = past_of_last(facts, lasts_among(facts, part, len(bank[0]))[purse])
    rows = {own: True}
    for name in part:
        if facts[name].parts[2] == purse:
            rows[joined_names(own, facts[name].past)] = True
    fitting = []
    for some in rows:
        if len(some) < len(part) and purses_behind(bank, facts, some)[purse] > 0:
            fitting.append((len(some), some))
    if not fitting:
        return None
    return min(fitting)[1]


def past_of_last(facts, last):
    """The past of the last payment of a purse, () if there is none."""
    if last is None:
        return ()
    return facts[last].past


def joined_names(one, other):
    """The ascending tuple of the names that are in one or the other."""
    names = {name: True for name in one}
    for name in other:
        names[name] = True
    return tuple(sorted(names))


def forgettable(trust, bank, lot):
    """The greatest part of the lot that nothing holds."""
    facts = facts_of_right_lot(trust, bank, lot)
    masks = masks_of_pasts(facts, lot)
    lasts = lasts_among(facts, lot, len(bank[0]))
    for many in reversed(cuts_of(facts, lot)):
        part = lot[:many]
        inside = {name: True for name in part}
        enders = [purse for purse, last in enumerate(lasts) if last is None or last in inside]
        if not any([can_pay_without(bank, facts, masks, part, purse) for purse in enders]):
            return part
    return ()


def masks_of_pasts(facts, lot):
    """The dict from each payment of the lot to the mask of its past, by places in the lot."""
    bits = {name: 1 << at for at, name in enumerate(lot)}
    return {name: sum([bits[lower] for lower in facts[name].past]) for name in lot}


def cuts_of(facts, lot):
    """The ascending list of all numbers such that each payment behind so many sees all of these."""
    # A part that all others see is less than all of them: so it is a beginning of the lot.
    cuts = []
    least = len(lot)
    for many in range(len(lot), -1, -1):
        if many < len(lot):
            least = min(least, agreed_length(facts[lot[many]].past, lot))
        if least >= many:
            cuts.append(many)
    return sorted(cuts)


def agreed_length(one, other):
    """How many names the two tuples have alike at their beginnings."""
    for at, (name, second) in enumerate(zip(one, other)):
        if name != second:
            return at
    return min(len(one), len(other))


def can_pay_without(bank, facts, masks, part, purse):
    """Whether the purse can pay behind some lot within the part, but not all of it, that has its own payments."""
    everything = (1 << len(part)) - 1
    last = lasts_among(facts, part, len(bank[0]))[purse]
    own = masks.get(last, 0)
    if own != everything and purses_behind(bank, facts, past_of_last(facts, last))[purse] > 0:
        return True
    for at, name in enumerate(part):
        if facts[name].parts[2] == purse and not own >> at & 1 and own | masks[name] != everything:
            return True
    return False


def kept_of(trust, bank, lot, part):
    """The triple (row, last, purses) of a part that nothing holds."""
    holder = holder_of(trust, bank, lot, part)
    if holder is not None:
        raise StillHeld(holder)
    return (row_of(trust, bank, part), lasts_of(trust, bank, part), totals(trust, bank, part))


def right_above(trust, bank, kept, payment):
    """Whether any value is a payment that is right as far as kept tells."""
    check_both(trust, bank)
    if not is_kept(trust, bank, kept):
        raise BadKept("a triple of rows of numbers, names and numbers is wanted")
    if not trust.is_name(payment) or payment in kept[1]:
        return False
    facts = facts_above(trust, bank, kept[1], payment)
    if facts is None:
        return False
    led = {}
    for name in facts:
        # Its causes are less than itself: what they lead to is known by now.
        leading = {}
        for cause in named_causes(facts[name].parts):
            if cause in facts:
                leading[cause] = True
                for lower in led[cause]:
                    leading[lower] = True
        led[name] = sorted(leading)
        if not stands_above(kept, facts, name, led[name]):
            return False
    return True


def is_kept(trust, bank, value):
    """Whether any value has the form of what is kept of a part."""
    if not isinstance(value, tuple) or len(value) != 3:
        return False
    row, last, purses = value
    if not is_row(bank, row) or not is_row(bank, purses):
        return False
    if not isinstance(last, tuple) or len(last) != len(row):
        return False
    return all([is_last(trust, row[at], last[at]) for at in range(len(row))])


def is_last(trust, many, value):
    """Whether any value can stand for the last one of so many payments."""
    if many == 0:
        return value is None
    return trust.is_name(value)


def facts_above(trust, bank, last, payment):
    """The dict from the payment and all that it leads to, ascending, to what is so of them; None if one is refused.

    No content of the kept names is looked at.
    """
    facts = {}
    waiting = [payment]
    while waiting:
        name = waiting.pop()
        if name in facts:
            continue
        parts = parts_of(trust, bank, name)
        if parts is None:
            return None
        facts[name] = Fact(parts, ())
        for purse, cause in enumerate(parts[4]):
            if cause != last[purse]:
                if cause is None or cause in last:
                    return None
                waiting.append(cause)
    return {name: facts[name] for name in sorted(facts)}


def stands_above(kept, facts, name, leading):
    """Whether the payment is as it should be, given the ascending list of all that it leads to."""
    row, last, purses = kept
    purse, number, _, amount, causes = facts[name].parts
    if least_clash(facts, leading) is not None:
        return False
    tops = lasts_among(facts, leading, len(row))
    for at, top in enumerate(tops):
        if top is None and causes[at] != last[at]:
            return False
        if top is not None and causes[at] != top:
            return False
    ahead = row[purse]
    if tops[purse] is not None:
        ahead = number_of(facts, tops[purse])
    held = list(purses)
    for lower in leading:
        move(held, facts[lower].parts)
    return number == ahead + 1 and held[purse] >= amount
