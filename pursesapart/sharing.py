"""What comes of the payments with one number of a shared purse, and runs that lock it."""

from pursesapart.checks import are_ascending_members, check_bank, is_member, is_number_below, need_of
from pursesapart.errors import BadAct, BadAgreed, BadLiars, BadOwners
from pursesapart.shared import are_owners, check_charter, has_all, has_lot, rows_of_choices

MOST_PROPOSALS = 30


class Sharing:
    """Proposals, who has sealed them, and who has voted for them."""

    def __init__(self, bank, charter, false=(), liars=(), agreed=False):
        check_bank(bank)
        check_charter(charter)
        if not are_owners(charter[0], false):
            raise BadOwners("an ascending tuple of owners is wanted")
        if not isinstance(liars, tuple) or not are_ascending_members(bank, liars) or len(liars) > bank[2]:
            raise BadLiars("an ascending tuple of at most as many members as may lie is wanted")
        if agreed is not True and agreed is not False:
            raise BadAgreed("it is told by True or False whether the owners agreed")
        self._bank = bank
        self._charter = charter
        self._false = false
        self._liars = liars
        self._agreed = agreed
        self._made = []
        self._seals = []
        self._votes = []

    def is_act(self, act):
        """Whether any value is an act that can be done now."""
        if not isinstance(act, tuple) or not 2 <= len(act) <= 3:
            return False
        if len(act) == 2:
            return act[0] == "propose" and self._can_propose(act[1])
        word, who, proposal = act
        if not is_number_below(proposal, len(self._made)):
            return False
        if word == "sign":
            return self._can_sign(who, proposal)
        return word == "vote" and self._can_vote(who, proposal)

    def act(self, act):
        """Does the act."""
        if not self.is_act(act):
            raise BadAct("an act that can be done now is wanted")
        if act[0] == "propose":
            self._made.append(act[1])
            self._seals.append({act[1]: True})
            self._votes.append({})
        elif act[0] == "sign":
            self._seals[act[2]][act[1]] = True
        else:
            self._votes[act[2]][act[1]] = True

    def made(self):
        """The tuple, for each proposal, of the owner that proposed it."""
        return tuple(self._made)

    def signers(self):
        """The tuple, for each proposal, of the ascending tuple of the owners that have sealed it."""
        return tuple([tuple(sorted(owners)) for owners in self._seals])

    def voters(self):
        """The tuple, for each proposal, of the ascending tuple of the members that have voted for it."""
        return tuple([tuple(sorted(members)) for members in self._votes])

    def signed(self):
        """The ascending tuple of the proposals that are signed."""
        return tuple([at for at, owners in enumerate(self._seals) if has_lot(self._charter, owners)])

    def booked(self):
        """The ascending tuple of the proposals for which enough members have voted."""
        return tuple([at for at, members in enumerate(self._votes) if len(members) >= need_of(self._bank)])

    def way_on(self):
        """Acts of owners and members that keep to their rules behind which a proposal is booked, None without any."""
        if self.booked():
            return []
        for proposal, owners in enumerate(self._seals):
            way = self._way_for(proposal, owners, len(self._votes[proposal]))
            if way is not None:
                return way
        for owner in self._charter[1]:
            if owner not in self._false and self._can_propose(owner):
                way = self._way_for(len(self._made), [owner], 0)
                if way is not None:
                    return [("propose", owner)] + way
        return None

    def locked(self):
        """Whether no proposal can be booked by those that keep to their rules."""
        return self.way_on() is None

    def _way_for(self, proposal, owners, many):
        """Acts that have a proposal booked that these owners have sealed and so many members voted for, or None."""
        free = [member for member in range(self._bank[1]) if self._is_free(member)]
        lacking = need_of(self._bank) - many
        helpers = []
        if proposal == 0 or not self._agreed:
            helpers = [owner for owner in range(self._charter[0]) if self._is_idle(owner)]
        if len(free) < lacking or not has_lot(self._charter, list(owners) + helpers):
            return None
        fewest = min([[owner for owner in lot if owner not in owners] for lot in self._charter[2]
                      if has_all(list(owners) + helpers, lot)], key=len)
        signs = [("sign", owner, proposal) for owner in fewest]
        return signs + [("vote", member, proposal) for member in free[:lacking]]

    def _is_idle(self, owner):
        """Whether the owner keeps to its rules and has sealed nothing."""
        return owner not in self._false and not any([owner in owners for owners in self._seals])

    def _is_free(self, member):
        """Whether the member keeps to its rules and has voted for nothing."""
        return member not in self._liars and not any([member in members for members in self._votes])

    def _can_propose(self, owner):
        if not is_number_below(owner, self._charter[0]) or owner not in self._charter[1]:
            return False
        if len(self._made) >= MOST_PROPOSALS:
            return False
        if owner in self._false:
            return True
        return self._is_idle(owner) and not (self._agreed and self._made)

    def _can_sign(self, owner, proposal):
        if not is_number_below(owner, self._charter[0]) or owner in self._seals[proposal]:
            return False
        if owner in self._false:
            return True
        return self._is_idle(owner) and (proposal == 0 or not self._agreed)

    def _can_vote(self, member, proposal):
        if not is_member(self._bank, member) or member in self._votes[proposal]:
            return False
        if member in self._liars:
            return True
        return self._is_free(member) and has_lot(self._charter, self._seals[proposal])


def locking_run(bank, charter, false=(), agreed=False):
    """Acts behind which the purse is locked, though no member lies; None if there are none."""
    if Sharing(bank, charter, false, (), agreed).locked():
        return ()
    if need_of(bank) > 1:
        run = run_of_two(bank, charter, false, agreed)
        if run is not None:
            return run
    if agreed:
        return None
    return run_of_none(charter, false)


def run_of_two(bank, charter, false, agreed):
    """A run that has two proposals signed, and votes for each that bar the other; None if there is none."""
    true = [owner for owner in range(charter[0]) if owner not in false]
    for mask in range(1 << len(true)):
        with_first = [owner for at, owner in enumerate(true) if mask >> at & 1]
        # Who keeps to its rules and has agreed seals the first proposal alone.
        if agreed and len(with_first) < len(true):
            continue
        first = sorted(with_first + list(false))
        second = [owner for owner in range(charter[0]) if owner not in with_first]
        if can_sign(charter, first) and can_sign(charter, second):
            return run_with(bank, charter, first, second)
    return None


def can_sign(charter, owners):
    """Whether these owners can make a proposal and have it signed."""
    return any([proposer in owners for proposer in charter[1]]) and has_lot(charter, owners)


def run_with(bank, charter, first, second):
    """The run in which the one and the other owners have a proposal signed, and all members vote."""
    heads = [[owner for owner in owners if owner in charter[1]][0] for owners in (first, second)]
    acts = [("propose", head) for head in heads]
    for proposal, owners in enumerate([first, second]):
        acts.extend([("sign", owner, proposal) for owner in owners if owner != heads[proposal]])
    for member in range(bank[1]):
        acts.append(("vote", member, int(member > bank[2])))
    return tuple(acts)


def run_of_none(charter, false):
    """A run behind which no proposal is signed, and none can be any more; None if there is none.

    Owners in false seal nothing but what they propose, and each owner that follows one of them gets a proposal
    of its own: the fewer have sealed each one, the better.
    """
    true = [owner for owner in range(charter[0]) if owner not in false]
    proposers = [owner for owner in charter[1] if owner not in false]
    cheats = [owner for owner in charter[1] if owner in false]
    for row in rows_of_choices(true, proposers, cheats):
        groups = groups_of(true, row, cheats)
        if not any([has_lot(charter, owners) for owners in groups]):
            return run_of_groups(groups)
    return None


def groups_of(true, row, cheats):
    """The list of the owners of each proposal, the proposer ahead, if each true owner seals as the row tells."""
    groups = {}
    for owner, head in zip(true, row):
        if head in cheats:
            groups[(head, owner)] = [head, owner]
        elif head != owner:
            groups.setdefault((head,), [head]).append(owner)
        else:
            groups.setdefault((head,), [head])
    return list(groups.values())


def run_of_groups(groups):
    """The run in which the first of each group proposes, and the others of it seal that."""
    acts = [("propose", owners[0]) for owners in groups]
    for proposal, owners in enumerate(groups):
        acts.extend([("sign", owner, proposal) for owner in owners[1:]])
    return tuple(acts)
