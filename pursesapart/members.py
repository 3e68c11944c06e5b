"""Members that keep to their rules."""

from pursesapart.checks import is_member
from pursesapart.disks import Disk
from pursesapart.errors import BadDisk, BadLetter, BadMember
from pursesapart.facts import fact_of, named_causes
from pursesapart.letters import is_letter
from pursesapart.payments import is_right
from pursesapart.shelves import part_above, row_on, shelf_in, take_in
from pursesapart.trust import check_both


class Member:
    """A member that votes at most once for a purse and number, and only for what it has looked at."""

    def __init__(self, trust, bank, number, disk):
        check_both(trust, bank)
        if not is_member(bank, number):
            raise BadMember("a member is told by its number, from 0 on")
        if not isinstance(disk, Disk):
            raise BadDisk("a Disk is wanted")
        self.trust = trust
        self.bank = bank
        self.number = number
        self.disk = disk

    def shelf(self):
        """Its shelf."""
        return shelf_in(self.disk)

    def voted(self):
        """The payments for which it has voted, in the sequence of the first votes."""
        kept = self.disk.read("votes")
        if kept is None:
            return ()
        return kept

    def row(self):
        """The row of its shelf."""
        return row_on(self.trust, self.bank, self.shelf())

    def hear(self, letter):
        """The list of the letters with which it answers, none or one."""
        if not is_letter(self.bank, letter):
            raise BadLetter("a letter of the bank is wanted")
        sender, receiver, body = letter
        me = ("member", self.number)
        if receiver != me:
            return []
        if body[0] == "want":
            return [(me, sender, ("tell", part_above(self.trust, self.bank, self.shelf(), body[1])))]
        take_in(self.trust, self.bank, self.disk, body[-1])
        if body[0] == "ask" and self._can_vote(body[1]):
            return [(me, sender, ("vote", self._vote(body[1])))]
        return []

    def _can_vote(self, payment):
        if not is_right(self.trust, self.bank, payment):
            return False
        parts = fact_of(self.trust, self.bank, payment).parts
        if not self.trust.sealed(("owner", parts[0]), payment):
            return False
        here = {item[0]: True for item in self.shelf()}
        if not all([cause in here for cause in named_causes(parts)]):
            return False
        for other in self.voted():
            if other != payment and fact_of(self.trust, self.bank, other).parts[:2] == parts[:2]:
                return False
        return True

    def _vote(self, payment):
        # Written ahead of the seal: whoever falls between the two knows for what it may have voted.
        if payment not in self.voted():
            self.disk.write("votes", self.voted() + (payment,))
        vote = self.trust.name(("vote", self.number, payment))
        self.trust.seal(("member", self.number), vote)
        return vote
