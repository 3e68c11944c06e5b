"""Lots of payments: their sequences, joins and covers, and what purses hold together along them."""

from pursesapart.checks import are_ascending_purses, check_amount, check_purse
from pursesapart.errors import BadLot, BadPayments, BadPurses, BadSequence, Clash, Poor, TooMany
from pursesapart.facts import fact_of, lasts_among, least_clash, move, named_causes, purses_behind
from pursesapart.greatest import greatest_out_of
from pursesapart.holdings import has_all_causes, held_paper, is_held_paper, is_part
from pursesapart.payments import has_form
from pursesapart.trust import check_both, is_ascending_names

MOST_GREATEST = 64


def is_lot(trust, bank, value):
    """Whether any value is a lot: payments that have the form, with all their causes, without a clash."""
    check_both(trust, bank)
    if not is_ascending_names(trust, value):
        return False
    if not all([fact_of(trust, bank, name).formed for name in value]):
        return False
    facts = trust.facts_for(bank)
    return has_all_causes(facts, value) and least_clash(facts, value) is None


def is_right_lot(trust, bank, value):
    """Whether any value is a lot of right payments."""
    return is_lot(trust, bank, value) and all([fact_of(trust, bank, name).fault is None for name in value])


def facts_of_lot(trust, bank, lot):
    """BadLot unless it is a lot: the facts of the bank, those of its payments among them."""
    if not is_lot(trust, bank, lot):
        raise BadLot("a lot is wanted")
    return trust.facts_for(bank)


def facts_of_right_lot(trust, bank, lot):
    """BadLot unless it is a right lot: the facts of the bank, those of its payments among them."""
    if not is_right_lot(trust, bank, lot):
        raise BadLot("a lot of right payments is wanted")
    return trust.facts_for(bank)


def row_of(trust, bank, lot):
    """The tuple with, for each purse, how many payments of it are in the lot."""
    facts = facts_of_lot(trust, bank, lot)
    row = [0] * len(bank[0])
    for name in lot:
        row[facts[name].parts[0]] += 1
    return tuple(row)


def lasts_of(trust, bank, lot):
    """The tuple with, for each purse, its payment with the greatest number in the lot, None if there is none."""
    facts = facts_of_lot(trust, bank, lot)
    return tuple(lasts_among(facts, lot, len(bank[0])))


def totals(trust, bank, lot):
    """The tuple of what is in the purses behind the lot."""
    facts = facts_of_lot(trust, bank, lot)
    return tuple(purses_behind(bank, facts, lot))


def is_sequence(trust, bank, lot, value):
    """Whether any value is a list of all payments of the lot, each once, each behind its causes."""
    facts = facts_of_lot(trust, bank, lot)
    if not isinstance(value, (list, tuple)) or len(value) != len(lot):
        return False
    ahead = {name: True for name in lot}
    for item in value:
        if not trust.is_name(item) or item not in ahead:
            return False
        if any([cause in ahead for cause in named_causes(facts[item].parts)]):
            return False
        del ahead[item]
    return True


def purses_along(trust, bank, lot, sequence):
    """The list of the tuples of what is in the purses at each moment of the sequence."""
    if not is_sequence(trust, bank, lot, sequence):
        raise BadSequence("a sequence of the lot is wanted")
    facts = trust.facts_for(bank)
    purses = list(bank[0])
    moments = [tuple(purses)]
    for name in sequence:
        move(purses, facts[name].parts)
        moments.append(tuple(purses))
    return moments


def overdrawing(trust, bank, lot):
    """The pair of a sequence and the index of a payment that overdraws in it, None if there is none."""
    facts = facts_of_lot(trust, bank, lot)
    for name in lot:
        fact = facts[name]
        if fact.found < fact.parts[3]:
            # Right behind its past the purse holds just what the payment finds.
            past = {lower: True for lower in fact.past}
            return (list(fact.past) + [other for other in lot if other not in past], len(past) - 1)
    return None


def clash_between(trust, bank, one, other):
    """The pair of the least payment of one that clashes with one of other, and that one; None without a clash."""
    facts = facts_of_lot(trust, bank, one)
    facts_of_lot(trust, bank, other)
    there = {facts[name].parts[:2]: name for name in other}
    for name in one:
        rival = there.get(facts[name].parts[:2], name)
        if rival != name:
            return (name, rival)
    return None


def joined_lots(trust, bank, one, other):
    """The lot of all payments of both lots."""
    clash = clash_between(trust, bank, one, other)
    if clash is not None:
        raise Clash(clash[0], clash[1])
    inside = {name: True for name in one}
    return tuple(sorted(list(one) + [name for name in other if name not in inside]))


def common_lot(trust, bank, one, other):
    """The lot of the payments that are in both lots."""
    facts_of_lot(trust, bank, one)
    facts_of_lot(trust, bank, other)
    inside = {name: True for name in other}
    return tuple([name for name in one if name in inside])


def names_of_pasts(trust, bank, payments):
    """BadPayments unless it is a list of payments that have the form: the ascending list of all their pasts."""
    check_both(trust, bank)
    if not isinstance(payments, (list, tuple)):
        raise BadPayments("a list of payments is wanted")
    met = {}
    for payment in payments:
        if not has_form(trust, bank, payment):
            raise BadPayments("payments that have the form are wanted")
        for name in fact_of(trust, bank, payment).past:
            met[name] = True
    return sorted(met)


def lot_of(trust, bank, payments):
    """The lot of all payments in the pasts of these."""
    names = names_of_pasts(trust, bank, payments)
    clash = least_clash(trust.facts_for(bank), names)
    if clash is not None:
        raise Clash(clash[0], clash[1])
    return tuple(names)


def greatest_lots(trust, bank, payments):
    """The ascending list of the lots of payments in the pasts of these that are part of no greater one."""
    names = names_of_pasts(trust, bank, payments)
    lots = greatest_out_of(trust.facts_for(bank), names, MOST_GREATEST)
    if lots is None:
        raise TooMany("there are more greatest lots than are listed")
    return sorted(lots)


def is_cover(trust, bank, lot, purse, amount, value):
    """Whether any value is a cover of the amount for the purse."""
    facts = facts_of_right_lot(trust, bank, lot)
    check_purse(bank, purse)
    check_amount(amount)
    if not is_part(facts, lot, value):
        return False
    many = [facts[name].parts[0] for name in lot].count(purse)
    if [facts[name].parts[0] for name in value].count(purse) != many:
        return False
    spare = purses_behind(bank, facts, value)[purse] - amount
    if spare < 0:
        return False
    needed = {}
    for name in value:
        for cause in named_causes(facts[name].parts):
            needed[cause] = True
    # Less is in the purse behind less, so it is enough that none of the uppermost can be left out.
    for name in value:
        if name not in needed and can_be_left(facts[name].parts, purse, spare):
            return False
    return True


def can_be_left(parts, purse, spare):
    """Whether a payment on which none rests can be left out, so much being in the purse beyond what is wanted."""
    if parts[0] == purse:
        return False
    return parts[2] != purse or parts[3] <= spare


def cover_of(trust, bank, lot, purse, amount):
    """A cover of the amount for the purse."""
    facts = facts_of_right_lot(trust, bank, lot)
    check_purse(bank, purse)
    check_amount(amount)
    spare = spare_behind(bank, facts, lot, purse, amount)
    needed = {}
    kept = []
    for name in reversed(lot):
        parts = facts[name].parts
        if name in needed or not can_be_left(parts, purse, spare):
            kept.append(name)
            for cause in named_causes(parts):
                needed[cause] = True
        elif parts[2] == purse:
            spare -= parts[3]
    return tuple(sorted(kept))


def spare_behind(bank, facts, lot, purse, amount):
    """Poor if the purse holds less than the amount behind the lot: how much more it holds."""
    has = purses_behind(bank, facts, lot)[purse]
    if has < amount:
        raise Poor(has)
    return has - amount


def content_for(trust, bank, lot, purse, to, amount):
    """The content of the payment that the purse can make behind the lot."""
    facts = facts_of_right_lot(trust, bank, lot)
    check_purse(bank, purse)
    check_purse(bank, to)
    check_amount(amount)
    spare_behind(bank, facts, lot, purse, amount)
    return ("pay", purse, row_of(trust, bank, lot)[purse] + 1, to, amount, lasts_of(trust, bank, lot))


def facts_for_purses(trust, bank, lot, purses):
    """BadLot, BadPurses: the facts of the bank, those of the payments of the right lot among them."""
    facts = facts_of_right_lot(trust, bank, lot)
    if not isinstance(purses, tuple) or not are_ascending_purses(bank, purses):
        raise BadPurses("a tuple of unlike ascending numbers of purses is wanted")
    return facts


def most_held(trust, bank, lot, purses):
    """A paper of the most that the purses hold together at any moment of any sequence of the lot."""
    facts = facts_for_purses(trust, bank, lot, purses)
    return held_paper(bank, facts, lot, purses, "most")


def least_held(trust, bank, lot, purses):
    """A paper of the least that the purses hold together at any moment of any sequence of the lot."""
    facts = facts_for_purses(trust, bank, lot, purses)
    return held_paper(bank, facts, lot, purses, "least")


def is_held(trust, bank, lot, purses, value):
    """Whether any value is a paper of the most or of the least that the purses hold together."""
    facts = facts_for_purses(trust, bank, lot, purses)
    return is_held_paper(bank, facts, lot, purses, value)
