"""What can still be booked behind a plan, what a lying owner locks, and how much can be paid at most."""

from pursesapart.checks import are_ascending_purses, check_bank, check_purse, is_number_below, is_number_from
from pursesapart.checks import need_of
from pursesapart.errors import BadMany, BadOwners, BadPayments, BadPurse, BadTimes, Empty, FewLie, MoreLie
from pursesapart.facts import fact_of, lasts_among, least_clash, number_of, purses_behind
from pursesapart.plans import check_liars, checked_steps
from pursesapart.trust import check_both

MOST_TIMES = 20


def least_named(bank):
    """How many members are named by a clash at least: so many liars, and more, can certify two that clash."""
    return bank[1] - 2 * bank[2]


def steps_behind(trust, bank, liars, plan):
    """BadLiars, MoreLie and BadPlan: the Steps behind the plan with few liars."""
    check_liars(trust, bank, liars)
    if len(liars) >= least_named(bank):
        raise MoreLie(liars)
    return checked_steps(trust, bank, liars, plan)


def names_below_and(trust, bank, payments):
    """BadPayments unless it is a list of right payments: the ascending list of them and all below them."""
    if not isinstance(payments, (list, tuple)):
        raise BadPayments("a list of payments is wanted")
    met = {}
    for payment in payments:
        if not trust.is_name(payment) or fact_of(trust, bank, payment).fault is not None:
            raise BadPayments("right payments are wanted")
        for name in fact_of(trust, bank, payment).past:
            met[name] = True
    return sorted(met)


def unsealed_among(trust, facts, names):
    """The list of those of the payments that are not sealed by their owners."""
    return [name for name in names if not trust.sealed(("owner", facts[name].parts[0]), name)]


def rest_of(trust, bank, liars, plan, payments):
    """Why these cannot all be booked behind the plan, or as few steps as any by which they are."""
    steps = steps_behind(trust, bank, liars, plan)
    wanted = names_below_and(trust, bank, payments)
    facts = trust.facts_for(bank)
    unsealed = unsealed_among(trust, facts, wanted)
    if unsealed:
        return ("forged", unsealed[0])
    clash = least_clash(facts, wanted)
    if clash is not None:
        return ("clash", clash[0], clash[1])
    for payment in wanted:
        against = members_against(facts, steps, payment)
        if len(against) > bank[2]:
            return ("against", payment, tuple(against))
    rest = []
    for payment in wanted:
        rest.extend(steps_lacking(facts, steps, payment))
    return ("plan", tuple(rest))


def members_against(facts, steps, payment):
    """The ascending list of the members, liars left out, with a step for a payment that clashes with this one."""
    members = []
    for rival in steps.voted_at(facts[payment].parts[:2]):
        if rival != payment:
            members.extend([member for member in steps.voters(rival) if member not in steps.liars])
    return sorted(members)


def steps_lacking(facts, steps, payment):
    """The list of steps that certify the payment: of members that do not lie, and of liars if these are too few."""
    voters = steps.voters(payment)
    barred = voters + members_against(facts, steps, payment) + list(steps.liars)
    free = [member for member in range(steps.bank[1]) if member not in barred]
    liars = [member for member in steps.liars if member not in voters]
    many = max(0, steps.need - len(voters))
    return [(member, payment) for member in (free + liars)[:many]]


def next_number(facts, steps, purse):
    """One more than the payments of the purse that are booked."""
    return 1 + len([payment for payment in steps.booked() if facts[payment].parts[0] == purse])


def holdings_at(steps, place):
    """The dict from each payment with this purse and number to its holders, the members that do not lie."""
    holdings = {}
    for payment in steps.voted_at(place):
        holders = [member for member in steps.voters(payment) if member not in steps.liars]
        if holders:
            holdings[payment] = holders
    return holdings


def lock_of(trust, bank, liars, plan, purse):
    """Whether the purse is open behind the plan, and for which payment, or locked, and by which steps."""
    steps = steps_behind(trust, bank, liars, plan)
    check_purse(bank, purse)
    holdings = holdings_at(steps, (purse, next_number(trust.facts_for(bank), steps, purse)))
    counts = {payment: len(holders) for payment, holders in holdings.items()}
    if sum(list(counts.values())) <= bank[2]:
        return ("open", None)
    if not is_locked(bank, counts):
        return ("open", min([payment for payment in counts if stand_against(counts, payment) <= bank[2]]))
    pairs = [(member, payment) for payment, holders in holdings.items() for member in holders]
    return ("locked", tuple(sorted(pairs)))


def stand_against(counts, payment):
    """How many holders stand against the payment."""
    return sum(list(counts.values())) - counts[payment]


def is_locked(bank, counts):
    """Whether more than may lie stand against each payment; counts has how many hold each one that is held."""
    return bool(counts) and all([stand_against(counts, payment) > bank[2] for payment in counts])


def lock_plan(trust, bank, liars, plan, payments):
    """As few steps as any for these payments of the next number behind which their purse is locked, or None."""
    steps = steps_behind(trust, bank, liars, plan)
    check_next(trust, bank, steps, payments)
    holdings = holdings_at(steps, trust.facts_for(bank)[payments[0]].parts[:2])
    counts = {payment: len(holders) for payment, holders in holdings.items()}
    holding = [member for holders in holdings.values() for member in holders]
    free = [member for member in range(bank[1]) if member not in liars and member not in holding]
    added = []
    # Spread evenly, so many steps leave the fewest holders to any one payment.
    while not is_locked(bank, counts):
        if len(added) == len(free):
            return None
        payment = min(payments, key=lambda one: counts.get(one, 0))
        counts[payment] = counts.get(payment, 0) + 1
        added.append((free[len(added)], payment))
    return tuple(added)


def check_next(trust, bank, steps, payments):
    """BadPayments unless these are sealed payments of one purse with its next number, all below them being booked."""
    names = names_below_and(trust, bank, payments)
    facts = trust.facts_for(bank)
    purse, number = place_of_all(facts, payments)
    if number != next_number(facts, steps, purse) or unsealed_among(trust, facts, payments):
        raise BadPayments("sealed payments with the next number of their purse are wanted")
    booked = {name: True for name in steps.booked()}
    if not all([name in booked or name in payments for name in names]):
        raise BadPayments("all payments below these must be booked")


def place_of_all(facts, payments):
    """BadPayments unless these are one or more unlike payments of one purse with one number: both of these."""
    if not payments or len({payment: True for payment in payments}) != len(payments):
        raise BadPayments("one or more unlike payments are wanted")
    places = [facts[payment].parts[:2] for payment in payments]
    if not all([place == places[0] for place in places]):
        raise BadPayments("payments of one purse with one number are wanted")
    return places[0]


def most_beside(bank, many):
    """How many payments of one purse and number can be certified if so many members lie, None for no bound."""
    check_bank(bank)
    if not is_number_below(many, bank[1] + 1):
        raise BadMany("a number from 0 to the members is wanted")
    need = need_of(bank)
    if many >= need:
        return None
    return (bank[1] - many) // (need - many)


def beside_plan(trust, bank, liars, payments):
    """A plan behind which all these payments of one purse with one number are booked, None if there is none."""
    check_liars(trust, bank, liars)
    names = names_below_and(trust, bank, payments)
    facts = trust.facts_for(bank)
    place_of_all(facts, payments)
    below = [name for name in names if name not in payments]
    if unsealed_among(trust, facts, names) or least_clash(facts, below) is not None:
        raise BadPayments("sealed payments are wanted, and no clash below them")
    most = most_beside(bank, len(liars))
    if most is not None and len(payments) > most:
        return None
    steps = [(member, name) for name in below for member in range(need_of(bank))]
    return tuple(steps + steps_beside(bank, liars, payments))


def steps_beside(bank, liars, payments):
    """The list of steps that certify each of these: of all liars, and each of members of its own."""
    lying = list(liars)[:need_of(bank)]
    many = need_of(bank) - len(lying)
    others = [member for member in range(bank[1]) if member not in liars]
    steps = []
    for at, payment in enumerate(payments):
        steps.extend([(member, payment) for member in lying + others[at * many:(at + 1) * many]])
    return steps


def settled_names(trust, bank, payments):
    """BadPayments unless it is a settled list: the ascending list of the payments and all below them."""
    names = names_below_and(trust, bank, payments)
    facts = trust.facts_for(bank)
    if unsealed_among(trust, facts, names) or least_clash(facts, names) is not None:
        raise BadPayments("sealed payments that do not clash are wanted")
    return names


def check_owners(bank, owners):
    """BadOwners unless it is an ascending tuple of unlike purses."""
    if not isinstance(owners, tuple) or not are_ascending_purses(bank, owners):
        raise BadOwners("an ascending tuple of unlike purses is wanted")


def most_paid(trust, bank, liars, payments, owners):
    """What can come out of the purses of the owners into others at most, None for no bound."""
    check_liars(trust, bank, liars)
    names = settled_names(trust, bank, payments)
    check_owners(bank, owners)
    held = sum([bank[0][purse] for purse in owners])
    for name in names:
        purse, _, to, amount, _ = fact_of(trust, bank, name).parts
        if purse not in owners and to in owners:
            held += amount
    if held == 0 or len(owners) == len(bank[0]):
        return 0
    if len(liars) >= least_named(bank):
        return None
    return held


def paid_out(trust, bank, payments, owners, to):
    """Seals a payment of all that is left in each purse of the owners: the list of their names."""
    check_both(trust, bank)
    names = settled_names(trust, bank, payments)
    check_owners(bank, owners)
    check_purse(bank, to)
    if to in owners:
        raise BadPurse("a purse beside those of the owners is wanted")
    facts = trust.facts_for(bank)
    held = purses_behind(bank, facts, names)
    lasts = lasts_among(facts, names, len(bank[0]))
    made = []
    for purse in owners:
        if held[purse] > 0:
            number = number_of(facts, lasts[purse]) + 1
            made.append(sealed_name(trust, ("pay", purse, number, to, held[purse], tuple(lasts))))
    return made


def sealed_name(trust, content):
    """The name of the content of a payment, which its owner seals."""
    name = trust.name(content)
    trust.seal(("owner", content[1]), name)
    return name


def drain_plan(trust, bank, liars, purse, to, times):
    """The pair of payments that take all out of the purse so many times, and a plan by which all are booked."""
    check_liars(trust, bank, liars)
    check_purse(bank, purse)
    check_purse(bank, to)
    if to == purse:
        raise BadPurse("another purse to pay to is wanted")
    if not is_number_from(times, 1) or times > MOST_TIMES:
        raise BadTimes("a number of times from 1 to 20 is wanted")
    if len(liars) < least_named(bank):
        raise FewLie("more members must lie to certify two payments that clash")
    if bank[0][purse] == 0:
        raise Empty("nothing is in the purse at first")
    lasts = [None] * len(bank[0])
    drained = []
    steps = []
    for number in range(1, times + 1):
        # Paid to itself as well, the purse has all of it again ahead of the next number.
        back = sealed_name(trust, ("pay", purse, number, purse, bank[0][purse], tuple(lasts)))
        drained.append(sealed_name(trust, ("pay", purse, number, to, bank[0][purse], tuple(lasts))))
        steps.extend(steps_beside(bank, liars, [back, drained[-1]]))
        lasts[purse] = back
    return (tuple(drained), tuple(steps))
