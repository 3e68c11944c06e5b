"""Drills: runs of members and payments without names, seals and letters, with care or without a rule of it."""

from pursesapart.checks import MOST_MEMBERS, is_ascending, is_begin, is_member, is_number_below, is_number_from
from pursesapart.checks import is_purse
from pursesapart.errors import BadAct, BadFrame, BadLiars, BadMember, BadRule, BadRun

CARE_RULES = ("once", "written", "causes", "covered", "sealed", "enough", "unlike", "carried", "members")
MOST_ACTS = 300


class Drill:
    """One drill: its payments, what its members noted and have in their books, and what first went wrong."""

    def __init__(self, frame, liars, without):
        check_frame(frame, without)
        if not isinstance(liars, tuple) or not all([is_member(frame, liar) for liar in liars]):
            raise BadLiars("an ascending tuple of members is wanted")
        if not is_ascending(liars) or len(liars) > frame[2]:
            raise BadLiars("an ascending tuple of at most as many members as may lie is wanted")
        if without is not None:
            check_rule(without)
        self.frame = frame
        self.liars = liars
        self.without = without
        self._need = frame[1] - frame[2]
        if without == "enough":
            self._need = max(1, self._need - 1)
        self._made = []
        self._places = {}
        self._pasts = []
        self._covered = []
        self._voters = []
        self._counts = []
        self._certified = {}
        self._books = [{} for _ in range(frame[1])]
        self._notes = [{} for _ in range(frame[1])]
        self._wrong = None

    def act(self, act):
        """Does the act."""
        if not self.is_act(act):
            raise BadAct("an act that can be done now is wanted")
        word = act[0]
        if word in ("pay", "forge"):
            self._make(act[1:], word == "pay")
        elif word == "ask":
            self._ask(act[1], act[2])
        elif word == "take":
            self._take_in(act[1], act[2])
        elif self.without == "written":
            self._notes[act[1]] = {}

    def is_act(self, act):
        """Whether any value is an act that can be done now."""
        if not isinstance(act, tuple) or not act:
            return False
        if act[0] == "pay" or act[0] == "forge":
            return len(act) == 6 and self._can_be_made(act[1:])
        if act[0] == "fall":
            return len(act) == 2 and self._is_true(act[1])
        if len(act) != 3 or not is_number_below(act[2], len(self._made)):
            return False
        if act[0] == "ask":
            return is_member(self.frame, act[1])
        return act[0] == "take" and self._is_true(act[1]) and act[2] in self._certified

    def payments(self):
        """The tuple of (purse, number, to, amount, causes, whether it is sealed)."""
        return tuple(self._made)

    def votes(self):
        """The tuple, for each payment, of the ascending tuple of the members that voted for it."""
        return tuple([tuple(sorted(voters)) for voters in self._voters])

    def certified(self):
        """The ascending tuple of the numbers of the payments that are certified."""
        return tuple(sorted(self._certified))

    def book_of(self, member):
        """The ascending tuple of the payments in the book of the member, None if it lies."""
        if not is_member(self.frame, member):
            raise BadMember("a member is told by its number, from 0 on")
        if member in self.liars:
            return None
        return tuple(sorted(self._books[member]))

    def wrong(self):
        """What first went wrong behind an ask, None if nothing did."""
        return self._wrong

    def _is_true(self, member):
        return is_member(self.frame, member) and member not in self.liars

    def _can_be_made(self, told):
        purse, number, to, amount, causes = told
        if not is_purse(self.frame, purse) or not is_purse(self.frame, to):
            return False
        if not is_number_from(number, 1) or not is_number_from(amount, 1) or not self._are_causes(causes):
            return False
        lasts = [None] * len(causes)
        # By their numbers: so two with one purse and number stand side by side.
        for payment in sorted(self._past_by(causes), key=self._place_of):
            last = lasts[self._place_of(payment)[0]]
            if last is not None and self._place_of(last) == self._place_of(payment):
                return False
            lasts[self._place_of(payment)[0]] = payment
        if tuple(lasts) != causes or told in self._places:
            return False
        return number == 1 + self._number_of(lasts[purse])

    def _are_causes(self, causes):
        if not isinstance(causes, tuple) or len(causes) != len(self.frame[0]):
            return False
        return all([cause is None or is_number_below(cause, len(self._made)) for cause in causes])

    def _place_of(self, payment):
        """The purse and the number of the payment."""
        return self._made[payment][:2]

    def _number_of(self, payment):
        if payment is None:
            return 0
        return self._made[payment][1]

    def _past_by(self, causes):
        """The ascending list of these causes, their causes, and so on."""
        past = {}
        for cause in causes:
            if cause is not None:
                past[cause] = True
                for lower in self._pasts[cause]:
                    past[lower] = True
        return sorted(past)

    def _make(self, told, sealed):
        purse, _, _, amount, causes = told
        past = self._past_by(causes)
        held = self._purses_behind(past)[purse]
        self._places[told] = len(self._made)
        self._made.append(told + (sealed,))
        self._pasts.append(past)
        self._covered.append(held >= amount and all([self._covered[lower] for lower in past]))
        self._voters.append({})
        self._counts.append(0)

    def _purses_behind(self, payments):
        purses = list(self.frame[0])
        for payment in payments:
            purse, _, to, amount, _, _ = self._made[payment]
            purses[purse] -= amount
            purses[to] += amount
        return purses

    def _ask(self, member, payment):
        refused = None
        if member in self.liars:
            self._vote(member, payment)
        else:
            refused = self._ask_true(member, payment)
        if self._wrong is None:
            self._wrong = self._wrong_now(refused)

    def _ask_true(self, member, payment):
        """Asks a member that keeps to its rules; the pair of both if it should have voted, and did not."""
        if self.without != "carried":
            for lower in self._pasts[payment]:
                if lower in self._certified:
                    self._take_in(member, lower)
        place = self._place_of(payment)
        noted = self._notes[member].get(place, payment)
        if self._is_fit(member, payment) and (noted == payment or self.without == "once"):
            self._notes[member][place] = payment
            self._vote(member, payment)
        elif self._made[payment][5] and self._covered[payment] and noted == payment:
            if all([lower in self._certified for lower in self._pasts[payment]]):
                return (member, payment)
        return None

    def _is_fit(self, member, payment):
        """Whether all but its notes has the member vote for the payment."""
        if not self._made[payment][5] and self.without != "sealed":
            return False
        if not self._covered[payment] and self.without != "covered":
            return False
        return self._has_causes(member, payment) or self.without == "causes"

    def _has_causes(self, member, payment):
        causes = self._made[payment][4]
        return all([cause is None or cause in self._books[member] for cause in causes])

    def _take_in(self, member, payment):
        if self._has_causes(member, payment):
            self._books[member][payment] = True

    def _vote(self, member, payment):
        if self.without == "unlike" or member not in self._voters[payment]:
            self._counts[payment] += 1
        self._voters[payment][member] = True
        if self._counts[payment] >= self._need:
            self._certified[payment] = True

    def _wrong_now(self, refused):
        """The first that is wrong behind an ask; refused is the pair of who should have voted, and for what."""
        certified = self.certified()
        firsts = {}
        pairs = []
        for payment in certified:
            place = self._place_of(payment)
            if place in firsts:
                pairs.append((firsts[place], payment))
            firsts.setdefault(place, payment)
        if pairs:
            return ("clash", min(pairs)[0], min(pairs)[1])
        for payment in certified:
            if not self._made[payment][5]:
                return ("stolen", payment)
        for purse, held in enumerate(self._purses_behind(certified)):
            if held < 0:
                return ("bare", purse)
        if refused is not None:
            return ("refused", refused[0], refused[1])
        return None


def care_rules():
    """The tuple of the names of the care rules."""
    return CARE_RULES


def check_rule(rule):
    """BadRule unless it is the name of a care rule."""
    if rule not in CARE_RULES:
        raise BadRule("the name of a care rule is wanted")


def check_frame(frame, without):
    """BadFrame unless it is a frame with members enough, or that rule is left out."""
    if not is_frame(frame):
        raise BadFrame("a frame is a tuple (begin, members, lies)")
    if frame[1] <= 3 * frame[2] and without != "members":
        raise BadFrame("more than three times as many members as may lie are wanted")


def is_frame(value):
    """Whether any value is a frame: (begin, members, lies)."""
    if not isinstance(value, tuple) or len(value) != 3:
        return False
    begin, members, lies = value
    if not is_begin(begin) or not is_number_from(members, 1) or members > MOST_MEMBERS:
        return False
    return is_number_below(lies, members)


def drilled(frame, liars, without, run):
    """None if the run goes well in a new drill, otherwise where it does not, and how."""
    drill = Drill(frame, liars, without)
    if not isinstance(run, (list, tuple)) or len(run) > MOST_ACTS:
        raise BadRun("a list of at most 300 acts is wanted")
    for index, act in enumerate(run):
        if not drill.is_act(act):
            return ("bad", index)
        drill.act(act)
        if drill.wrong() is not None:
            return ("wrong", index, drill.wrong())
    return None
