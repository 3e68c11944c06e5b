"""Owners that keep to their rules, and what an end may lack."""

from pursesapart.checks import check_amount, check_purse, need_of
from pursesapart.disks import Disk
from pursesapart.errors import BadDisk, BadEnd, Busy, Poor
from pursesapart.facts import fact_of, facts_with, lasts_among, number_of, purses_behind
from pursesapart.letters import is_end, is_letter
from pursesapart.shelves import check_shelf, part_above, row_on, shelf_in, take_in
from pursesapart.trust import check_both
from pursesapart.votes import ballot_of


def may_lack(trust, bank, shelf, end):
    """The tuple of the certificates of the shelf whose payments are none that the end must know by it."""
    check_shelf(trust, bank, shelf)
    if not is_end(bank, end):
        raise BadEnd("an owner or a member of the bank is wanted")
    return part_lacked(trust, bank, shelf, end)


def part_lacked(trust, bank, shelf, end):
    """What the end may lack of what is known to be a shelf."""
    known = known_by(trust, bank, shelf, end)
    return tuple([item for item in shelf if item[0] not in known])


def known_by(trust, bank, shelf, end):
    """The dict of the payments that the end must know by the shelf."""
    known = {}
    # From the end on: what is known here has brought all its past, so it need not be looked at.
    for item in reversed(shelf):
        if item[0] not in known and has_done(trust, bank, end, item):
            for name in fact_of(trust, bank, item[0]).past[:-1]:
                known[name] = True
    return known


def has_done(trust, bank, end, certificate):
    """Whether the end has voted for the payment, or made it, as the certificate shows."""
    payment, votes = certificate
    if end[0] == "owner":
        return fact_of(trust, bank, payment).parts[0] == end[1]
    return end[1] in [trust.content(vote)[1] for vote in votes]


class Owner:
    """An owner that asks for one payment at a time, behind all that it has booked."""

    def __init__(self, trust, bank, purse, disk):
        check_both(trust, bank)
        check_purse(bank, purse)
        if not isinstance(disk, Disk):
            raise BadDisk("a Disk is wanted")
        self.trust = trust
        self.bank = bank
        self.purse = purse
        self.disk = disk
        self._heard = {}
        if self._has_booked(self.asked()):
            disk.write("asked", None)
        elif self.asked() is not None:
            trust.seal(("owner", purse), self.asked())

    def shelf(self):
        """Its shelf."""
        return shelf_in(self.disk)

    def asked(self):
        """The payment of its purse that is not booked yet, None if there is none."""
        return self.disk.read("asked")

    def has(self):
        """What is in its purse by what is on its shelf."""
        names = self._payments()
        return purses_behind(self.bank, facts_with(self.trust, self.bank, names), names)[self.purse]

    def pay(self, to, amount):
        """Makes the payment, and tells the letters that ask for it."""
        check_purse(self.bank, to)
        check_amount(amount)
        if self.asked() is not None:
            raise Busy("one payment is asked for at a time")
        held = self.has()
        if held < amount:
            raise Poor(held)
        payment = self.trust.name(self._content_for(to, amount))
        # Written ahead of the seal: whoever falls between the two makes no other one with this number.
        self.disk.write("asked", payment)
        self.trust.seal(("owner", self.purse), payment)
        return self.again()

    def again(self):
        """The list of the letters that ask all members of which no vote was heard in this life."""
        payment = self.asked()
        if payment is None:
            return []
        past = {name: True for name in fact_of(self.trust, self.bank, payment).past}
        letters = []
        for end in self._members():
            if end[1] not in self._heard:
                lacked = [item for item in self._lacked_by(end) if item[0] in past]
                letters.append((self._end(), end, ("ask", payment, tuple(lacked))))
        return letters

    def news(self):
        """The list of the letters that tell all others what they may lack."""
        others = [("owner", purse) for purse in range(len(self.bank[0])) if purse != self.purse]
        letters = []
        for end in others + self._members():
            lacked = self._lacked_by(end)
            if lacked:
                letters.append((self._end(), end, ("tell", lacked)))
        return letters

    def look(self):
        """The list of the letters that ask all members for what they have above its row."""
        row = row_on(self.trust, self.bank, self.shelf())
        return [(self._end(), end, ("want", row)) for end in self._members()]

    def hear(self, letter):
        """The list of the letters that follow when it hears any value."""
        if not is_letter(self.bank, letter) or letter[1] != self._end():
            return []
        sender, _, body = letter
        word, told = body
        if word == "vote":
            return self._hear_vote(sender[1], told)
        if word == "tell":
            return self._take(self._without_own(told))
        return self._answer(sender, told)

    def _end(self):
        return ("owner", self.purse)

    def _members(self):
        return [("member", number) for number in range(self.bank[1])]

    def _payments(self):
        return [item[0] for item in self.shelf()]

    def _has_booked(self, payment):
        return payment in self._payments()

    def _content_for(self, to, amount):
        names = self._payments()
        facts = facts_with(self.trust, self.bank, names)
        causes = lasts_among(facts, names, len(self.bank[0]))
        return ("pay", self.purse, number_of(facts, causes[self.purse]) + 1, to, amount, tuple(causes))

    def _lacked_by(self, end):
        return part_lacked(self.trust, self.bank, self.shelf(), end)

    def _hear_vote(self, member, vote):
        payment = self.asked()
        if ballot_of(self.trust, self.bank, vote) != (member, payment):
            return []
        self._heard[member] = vote
        if len(self._heard) < need_of(self.bank):
            return []
        return self._take([(payment, tuple(sorted(self._heard.values())))])

    def _without_own(self, certificates):
        # An owner knows what it has made: other payments of its purse are not its own doing.
        return [item for item in certificates if item[0] == self.asked() or not self._is_own(item[0])]

    def _is_own(self, payment):
        if not self.trust.is_name(payment):
            return False
        parts = fact_of(self.trust, self.bank, payment).parts
        return parts is not None and parts[0] == self.purse

    def _take(self, certificates):
        take_in(self.trust, self.bank, self.disk, certificates)
        if not self._has_booked(self.asked()):
            return []
        self.disk.write("asked", None)
        self._heard = {}
        return self.news()

    def _answer(self, sender, row):
        above = part_above(self.trust, self.bank, self.shelf(), row)
        if not above:
            return []
        return [(self._end(), sender, ("tell", above))]
