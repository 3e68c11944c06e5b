"""Who was first: what hands can tell from wishes that are done at once, one behind another."""

from pursesapart.checks import check_bank, check_purse, is_number_below, is_number_from, is_purse
from pursesapart.errors import BadHands, BadWeaving, BadWishes, NotSettling

MOST_HANDS = 4


def are_wishes(bank, value):
    """Whether any value is a tuple of two to four wishes."""
    if not isinstance(value, tuple) or not 2 <= len(value) <= MOST_HANDS:
        return False
    return all([is_wish(bank, item) for item in value])


def is_wish(bank, value):
    """Whether any value is a triple of two purses and an amount."""
    if not isinstance(value, tuple) or len(value) != 3:
        return False
    return is_purse(bank, value[0]) and is_purse(bank, value[1]) and is_number_from(value[2], 1)


def check_wishes(bank, wishes):
    """BadBank, BadWishes unless these are wishes in the bank."""
    check_bank(bank)
    if not are_wishes(bank, wishes):
        raise BadWishes("a tuple of two to four wishes is wanted")


def is_weaving(many, value):
    """Whether any value is a tuple in which each of so many hands stands twice."""
    if not isinstance(value, tuple) or not all([is_number_below(hand, many) for hand in value]):
        return False
    return sorted(value) == sorted(list(range(many)) * 2)


def views_in(bank, wishes, weaving):
    """The tuple of the views of the hands in the weaving."""
    check_wishes(bank, wishes)
    if not is_weaving(len(wishes), weaving):
        raise BadWeaving("a tuple in which each hand stands twice is wanted")
    return views_of(bank, wishes, weaving)


def views_of(bank, wishes, weaving):
    """The views of the hands in what is known to be a weaving."""
    purses = list(bank[0])
    done = {}
    views = {}
    for hand in weaving:
        if hand in done:
            views[hand] = (done[hand], tuple(purses))
        else:
            done[hand] = do_wish(purses, wishes[hand])
    return tuple([views[hand] for hand in range(len(wishes))])


def do_wish(purses, wish):
    """Does the wish in this list of what is in the purses, if it can be done: whether it was."""
    purse, to, amount = wish
    if purses[purse] < amount:
        return False
    purses[purse] -= amount
    purses[to] += amount
    return True


def settles(bank, wishes):
    """Whether there are rules by which all hands tell, from their views alone, who was first."""
    check_wishes(bank, wishes)
    return can_settle(bank, wishes)


def can_settle(bank, wishes):
    """Whether all pay out of one purse, and just the first one can; of three or more, leaving unlike purses."""
    purse = wishes[0][0]
    if not all([wish[0] == purse and wish[2] <= bank[0][purse] for wish in wishes]):
        return False
    left = [purses_after(bank, wish) for wish in wishes]
    for at, wish in enumerate(wishes):
        if any([left[other][purse] >= wish[2] for other in range(len(wishes)) if other != at]):
            return False
    return len(wishes) == 2 or len({purses: True for purses in left}) == len(left)


def purses_after(bank, wish):
    """The tuple of what is in all purses when the wish alone is done."""
    purses = list(bank[0])
    do_wish(purses, wish)
    return tuple(purses)


def blur(bank, wishes):
    """Weavings, each with a view of the next one, from one hand's being first to another's; None if it is settled."""
    check_wishes(bank, wishes)
    if can_settle(bank, wishes):
        return None
    views = {weaving: views_of(bank, wishes, weaving) for weaving in weavings_of(len(wishes))}
    alike = {}
    for weaving, seen in views.items():
        for hand_and_view in enumerate(seen):
            alike.setdefault(hand_and_view, []).append(weaving)
    ways = [way_from(views, alike, hand) for hand in range(len(wishes))]
    return min([way for way in ways if way is not None], key=len)


def weavings_of(many):
    """The list of all weavings of so many hands."""
    weavings = [()]
    for _ in range(2 * many):
        weavings = [row + (hand,) for row in weavings for hand in range(many) if row.count(hand) < 2]
    return weavings


def way_from(views, alike, hand):
    """The shortest list of weavings from those in which the hand is first to those in which another one is, or None."""
    waiting = [weaving for weaving in views if weaving[:2] == (hand, hand)]
    ahead = {weaving: None for weaving in waiting}
    met = {}
    at = 0
    while at < len(waiting):
        weaving = waiting[at]
        at += 1
        if weaving[0] == weaving[1] != hand:
            return way_back(ahead, weaving)
        for hand_and_view in enumerate(views[weaving]):
            if hand_and_view not in met:
                met[hand_and_view] = True
                for other in alike[hand_and_view]:
                    if other not in ahead:
                        ahead[other] = weaving
                        waiting.append(other)
    return None


def way_back(ahead, weaving):
    """The list of the weavings by which this one was met, itself at its end."""
    way = []
    while weaving is not None:
        way.append(weaving)
        weaving = ahead[weaving]
    way.reverse()
    return way


def most_hands(bank, purse):
    """The greatest number of hands that have wishes out of the purse that settle who was first."""
    check_bank(bank)
    check_purse(bank, purse)
    held = bank[0][purse]
    others = len(bank[0]) - 1
    if held == 0 or others == 0:
        return 0
    # More than half of what is there to any other purse, and half of it once: no two of these can be done.
    return max(2, others * (held - held // 2) + 1 - held % 2)


def settling_wishes(bank, purse, many):
    """So many wishes out of the purse that settle who was first."""
    most = most_hands(bank, purse)
    if not is_number_from(many, 2) or many > MOST_HANDS:
        raise BadHands("a number of hands from 2 to 4 is wanted")
    if many > most:
        raise NotSettling(most)
    held = bank[0][purse]
    others = [to for to in range(len(bank[0])) if to != purse]
    if many == 2:
        return ((purse, others[0], held), (purse, others[0], held))
    wishes = []
    for amount in range(held, max(held // 2, held - many), -1):
        wishes.extend([(purse, to, amount) for to in others])
    if held % 2 == 0:
        wishes.append((purse, others[0], held // 2))
    return tuple(wishes[:many])
