"""Which payments stand in no lot together, and the greatest lots out of many payments.

Payments stand for bits here, by their places in an ascending list that has all their pasts.
"""

from pursesapart.facts import named_causes


def greatest_out_of(facts, names, most):
    """The list of the greatest lots out of these, each an ascending tuple; None if there are more than most."""
    barred = barred_masks(facts, names)
    masks = greatest_masks(barred, most)
    if masks is None:
        return None
    return [tuple([name for at, name in enumerate(names) if not barred[at] & mask]) for mask in masks]


def barred_masks(facts, names):
    """The list with, for each of the names, the mask of those that are in no lot with it."""
    rivals = clashing_names(facts, names)
    above = masks_above(facts, names, rivals)
    barred = {}
    for name in names:
        mask = 0
        for rival in rivals.get(name, []):
            mask = mask | above[rival]
        for cause in named_causes(facts[name].parts):
            mask = mask | barred[cause]
        barred[name] = mask
    return [barred[name] for name in names]


def clashing_names(facts, names):
    """The dict with, for each of the names that clashes with others, the list of these."""
    alike = {}
    for name in names:
        alike.setdefault(facts[name].parts[:2], []).append(name)
    rivals = {}
    for group in alike.values():
        if len(group) > 1:
            for name in group:
                rivals[name] = [other for other in group if other != name]
    return rivals


def masks_above(facts, names, wanted):
    """The dict with, for each wanted name, the mask of those in whose pasts it is."""
    masks = {name: 0 for name in wanted}
    for at, name in enumerate(names):
        for lower in facts[name].past:
            if lower in masks:
                masks[lower] = masks[lower] | 1 << at
    return masks


def greatest_masks(barred, most):
    """Masks of payments out of each greatest lot that bar all that is not in it; None if there are more than most."""
    masks = [0]
    seen = {}
    for at, mask in enumerate(barred):
        # Payments that bar the same are in the same greatest lots, so one stands for all of them.
        if mask not in seen:
            seen[mask] = True
            masks = masks_with(masks, at, mask)
        # Each of these grows to a greatest lot of its own, so they never become fewer.
        if len(masks) > most:
            return None
    return masks


def masks_with(masks, at, barred):
    """The greatest lots when one payment more is looked at, out of those without it."""
    left = [mask for mask in masks if mask & barred]
    grown = {}
    for mask in masks:
        grown[mask - (mask & barred) + (1 << at)] = True
    return left + [mask for mask in grown if not is_in_another(mask, list(grown))]


def is_in_another(mask, others):
    """Whether one of the others has all of this mask, and is not the same."""
    return any([mask != other and mask & other == mask for other in others])
