"""Shelves: certificates of right and sealed payments, each behind those of its causes, without a clash."""

from pursesapart.checks import is_row
from pursesapart.errors import BadCertificates, BadRow, BadShelf
from pursesapart.facts import fact_of, named_causes
from pursesapart.trust import check_both
from pursesapart.votes import is_certificate


def is_shelf(trust, bank, value):
    """Whether any value is a shelf."""
    check_both(trust, bank)
    return isinstance(value, tuple) and len(grown(trust, bank, (), value)) == len(value)


def check_shelf(trust, bank, shelf):
    """BadTrust, BadBank, and BadShelf unless it is a shelf."""
    if not is_shelf(trust, bank, shelf):
        raise BadShelf("a shelf is wanted")


def row_of_shelf(trust, bank, shelf):
    """The tuple of how many payments of each purse the shelf has."""
    check_shelf(trust, bank, shelf)
    return row_on(trust, bank, shelf)


def taken_in(trust, bank, shelf, certificates):
    """The shelf that comes of it when each item of the list, any value, is put at the end if it can be."""
    check_shelf(trust, bank, shelf)
    if not isinstance(certificates, (list, tuple)):
        raise BadCertificates("a list of certificates is wanted")
    return grown(trust, bank, shelf, certificates)


def shelf_above(trust, bank, shelf, row):
    """The tuple of the certificates of the shelf whose payments have greater numbers than the row."""
    check_shelf(trust, bank, shelf)
    if not is_row(bank, row):
        raise BadRow("a row has a number from 0 on for each purse")
    return part_above(trust, bank, shelf, row)


# What follows is for those who know that they have a shelf: they need not have it looked at again and again.

def parts_on(trust, bank, shelf):
    """The list of the tuples (purse, number, to, amount, causes) of the payments of the shelf."""
    return [fact_of(trust, bank, item[0]).parts for item in shelf]


def row_on(trust, bank, shelf):
    """The row of the shelf."""
    row = [0] * len(bank[0])
    for parts in parts_on(trust, bank, shelf):
        row[parts[0]] += 1
    return tuple(row)


def part_above(trust, bank, shelf, row):
    """The tuple of the certificates of the shelf above the row."""
    pairs = list(zip(shelf, parts_on(trust, bank, shelf)))
    return tuple([item for item, parts in pairs if parts[1] > row[parts[0]]])


def grown(trust, bank, shelf, items):
    """The shelf with all those of these items, any values, that can stand behind what is ahead of them."""
    kept = list(shelf)
    here = {parts[:2]: item[0] for item, parts in zip(shelf, parts_on(trust, bank, shelf))}
    for item in items:
        if can_follow(trust, bank, here, item):
            kept.append(item)
            here[fact_of(trust, bank, item[0]).parts[:2]] = item[0]
    return tuple(kept)


def can_follow(trust, bank, here, item):
    """Whether any value can stand at the end; here has what is on the shelf, by purse and number."""
    if not isinstance(item, tuple) or len(item) != 2 or not trust.is_name(item[0]):
        return False
    fact = fact_of(trust, bank, item[0])
    if fact.fault is not None or fact.parts[:2] in here:
        return False
    for cause in named_causes(fact.parts):
        if here.get(fact_of(trust, bank, cause).parts[:2]) != cause:
            return False
    return trust.sealed(("owner", fact.parts[0]), item[0]) and is_certificate(trust, bank, item)


def shelf_in(disk):
    """The shelf that an end keeps on its disk, () if nothing was written."""
    kept = disk.read("book")
    if kept is None:
        return ()
    return kept


def take_in(trust, bank, disk, certificates):
    """Takes the certificates in; the disk is written to only if another shelf comes of it."""
    shelf = shelf_in(disk)
    wider = grown(trust, bank, shelf, certificates)
    if len(wider) > len(shelf):
        disk.write("book", wider)
