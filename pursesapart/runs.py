"""Runs: letters lost, doubled and late, ends that fall and come back, ends that lie."""

from pursesapart.checks import are_ascending_members, are_ascending_purses, check_bank, is_member, is_number_below
from pursesapart.checks import is_purse
from pursesapart.disks import Disk, check_fuse
from pursesapart.errors import BadCheats, BadLetter, BadLiars, BadMember, BadNumber, BadPurse, BadWho, Fell, Gone
from pursesapart.errors import NotGone
from pursesapart.letters import is_end, is_letter
from pursesapart.members import Member
from pursesapart.owners import Owner
from pursesapart.shelves import shelf_in
from pursesapart.trust import Trust


class Play:
    """One run: its ends, its road of letters, and what is kept of it."""

    def __init__(self, bank, liars, cheats):
        check_bank(bank)
        if not isinstance(liars, (list, tuple)) or not are_ascending_members(bank, liars):
            raise BadLiars("a list of unlike ascending members is wanted")
        if not isinstance(cheats, (list, tuple)) or not are_ascending_purses(bank, cheats):
            raise BadCheats("a list of unlike ascending purses is wanted")
        self.bank = bank
        self.trust = Trust()
        self.liars = tuple(liars)
        self.cheats = tuple(cheats)
        self._road = []
        self._moment = 0
        self._ledger = {}
        self._calls = []
        self._unended = {}
        self._disks = {}
        self._ends = {}
        for purse in range(len(bank[0])):
            if purse not in self.cheats:
                self._come_up(("owner", purse), {})
        for member in range(bank[1]):
            if member not in self.liars:
                self._come_up(("member", member), {})

    def pay(self, purse, to, amount):
        """The owner of the purse pays, and its letters are sent."""
        owner = self._owner_here(purse)
        who = ("owner", purse)
        try:
            letters = owner.pay(to, amount)
        except Fell:
            self._ends[who] = None
            self._close(who, [])
        else:
            self._close(who, letters)
            self._unended[purse] = len(self._calls)
            self._calls.append((purse, owner.asked(), self._moment, None))

    def again(self, purse):
        """The owner of the purse sends the letters of its open payment once more."""
        self._close(("owner", purse), self._owner_here(purse).again())

    def news(self, purse):
        """The owner of the purse tells all others what they may lack."""
        self._close(("owner", purse), self._owner_here(purse).news())

    def look(self, purse):
        """The owner of the purse asks all members for what they have above its row."""
        self._close(("owner", purse), self._owner_here(purse).look())

    def bring(self, number):
        """The receiver of the letter hears it, and the letters that follow are sent."""
        letter = self.letter(number)
        who = letter[1]
        letters = []
        if self._ends.get(who) is not None:
            letters = self._letters_behind(who, letter)
        self._close(who, letters)

    def fall(self, who, writes):
        """The end falls now, or at a write later on."""
        self._check_who(who)
        check_fuse(writes)
        if self._ends[who] is None:
            raise Gone("the end is gone")
        if writes is None:
            self._ends[who] = None
        else:
            disk = self._disks[who]
            disk.fuse = writes
        self._close(who, [])

    def back(self, who):
        """The end that is gone comes back on a disk with the same cells."""
        self._check_who(who)
        if self._ends[who] is not None:
            raise NotGone("the end is not gone")
        self._come_up(who, self.cells_of(who))
        self._close(who, [])

    def lie(self, who, content):
        """Who lies names the content and seals it: its name."""
        self._check_lying(who)
        name = self.trust.name(content)
        self.trust.seal(who, name)
        self._close(who, [])
        return name

    def send(self, letter):
        """Who lies sends the letter: its number."""
        if not is_letter(self.bank, letter):
            raise BadLetter("a letter of the bank is wanted")
        self._check_lying(letter[0])
        self._close(letter[0], [letter])
        return len(self._road) - 1

    def count(self):
        """How many letters were sent."""
        return len(self._road)

    def letter(self, number):
        """The letter with this number."""
        if not is_number_below(number, len(self._road)):
            raise BadNumber("letters are told by their numbers on the road, from 0 on")
        return self._road[number]

    def waiting(self, end):
        """The ascending list of the numbers of the letters to the end."""
        if not is_end(self.bank, end):
            raise BadWho("an owner or a member of the bank is wanted")
        return [number for number, letter in enumerate(self._road) if letter[1] == end]

    def moment(self):
        """The moment of the last event, 0 at first."""
        return self._moment

    def is_gone(self, who):
        """Whether the end is gone."""
        self._check_who(who)
        return self._ends[who] is None

    def cells_of(self, who):
        """The dict of what the disk of the end holds."""
        self._check_who(who)
        return self._disks[who].cells()

    def shelf_of(self, who):
        """The shelf on the disk of the end."""
        self._check_who(who)
        return shelf_in(self._disks[who])

    def owner_at(self, purse):
        """The Owner of the purse, None while it is gone."""
        self._check_purse(purse)
        return self._ends[("owner", purse)]

    def member_at(self, member):
        """The Member, None while it is gone."""
        if not is_member(self.bank, member) or member in self.liars:
            raise BadMember("a member that does not lie is wanted")
        return self._ends[("member", member)]

    def ledger(self):
        """The tuple of pairs of a payment on the shelf of an end that does not lie, and the moment it first was."""
        return tuple(self._ledger.items())

    def calls(self):
        """The tuple of (purse, payment, begin, end) for each payment that was asked for by the event pay."""
        return tuple(self._calls)

    def _come_up(self, who, cells):
        disk = Disk(cells, None)
        self._disks[who] = disk
        if who[0] == "owner":
            self._ends[who] = Owner(self.trust, self.bank, who[1], disk)
        else:
            self._ends[who] = Member(self.trust, self.bank, who[1], disk)

    def _check_who(self, who):
        if not is_end(self.bank, who) or who not in self._ends:
            raise BadWho("an end that does not lie is wanted")

    def _check_lying(self, who):
        if not is_end(self.bank, who) or who in self._ends:
            raise BadWho("an end that lies is wanted")

    def _check_purse(self, purse):
        if not is_purse(self.bank, purse) or purse in self.cheats:
            raise BadPurse("a purse whose owner does not lie is wanted")

    def _owner_here(self, purse):
        owner = self.owner_at(purse)
        if owner is None:
            raise Gone("the owner is gone")
        return owner

    def _letters_behind(self, who, letter):
        end = self._ends[who]
        try:
            return end.hear(letter)
        except Fell:
            self._ends[who] = None
            return []

    def _close(self, who, letters):
        # Each event changes the cells of one end at most: that of who.
        self._road.extend(letters)
        self._moment += 1
        if who in self._ends:
            for item in self.shelf_of(who):
                self._ledger.setdefault(item[0], self._moment)
        if who[0] == "owner" and who[1] in self._unended:
            self._close_call(who)

    def _close_call(self, who):
        at = self._unended[who[1]]
        call = self._calls[at]
        if self._disks[who].read("asked") != call[1]:
            self._calls[at] = call[:3] + (self._moment,)
            del self._unended[who[1]]
