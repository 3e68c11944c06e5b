"""The words of [120] and [121], done plainly, to hold the program against."""

RULES = ("once", "written", "causes", "covered", "sealed", "enough", "unlike", "carried", "members")


class PlainDrill:
    """One drill, each condition worked out anew whenever it is asked for."""

    def __init__(self, frame, liars, without):
        self.frame = frame
        self.liars = liars
        self.without = without
        self.made = []
        self.asked = []
        self.books = {member: set() for member in range(frame[1]) if member not in liars}
        self.notes = {member: {} for member in self.books}
        self.told = None

    def need(self):
        need = self.frame[1] - self.frame[2]
        return max(1, need - 1) if self.without == "enough" else need

    def past(self, causes):
        found = set()
        for cause in causes:
            if cause is not None:
                found |= {cause} | self.past(self.made[cause][4])
        return found

    def certified(self):
        found = []
        for at in range(len(self.made)):
            votes = [member for member, payment in self.asked if payment == at]
            many = len(votes) if self.without == "unlike" else len(set(votes))
            if many >= self.need():
                found.append(at)
        return tuple(found)

    def held(self, purse, payments):
        held = self.frame[0][purse]
        for at in payments:
            held += self.made[at][3] * ((self.made[at][2] == purse) - (self.made[at][0] == purse))
        return held

    def is_covered(self, payment):
        purse, _, _, amount, causes, _ = self.made[payment]
        return self.held(purse, self.past(causes)) >= amount

    def has_form(self, purse, number, to, amount, causes):
        numbers = range(len(self.frame[0]))
        if purse not in numbers or to not in numbers or amount < 1 or len(causes) != len(numbers):
            return False
        if any(cause is not None and not 0 <= cause < len(self.made) for cause in causes):
            return False
        past = self.past(causes)
        places = [self.made[at][:2] for at in past]
        if len(set(places)) < len(places):
            return False
        for at in numbers:
            own = [one for one in past if self.made[one][0] == at]
            if causes[at] != max(own, key=lambda one: self.made[one][1], default=None):
                return False
        if number != 1 + sum(self.made[at][0] == purse for at in past):
            return False
        return all(one[:5] != (purse, number, to, amount, causes) for one in self.made)

    def can(self, act):
        """Whether an act of the right shape, numbers everywhere, can be done."""
        if act[0] in ("pay", "forge"):
            return self.has_form(*act[1:])
        if act[0] == "fall":
            return act[1] in self.books
        if not 0 <= act[2] < len(self.made):
            return False
        if act[0] == "ask":
            return 0 <= act[1] < self.frame[1]
        return act[1] in self.books and act[2] in self.certified()

    def do(self, act):
        if act[0] in ("pay", "forge"):
            self.made.append(act[1:] + (act[0] == "pay",))
        elif act[0] == "fall":
            if self.without == "written":
                self.notes[act[1]] = {}
        elif act[0] == "take":
            self.take(act[1], act[2])
        else:
            voted = act[1] in self.liars or self.ask(act[1], act[2])
            if voted:
                self.asked.append(act[1:])
            elif self.told is None:
                self.told = self.refused(act[1], act[2])
            if self.all_wrong() is not None and (self.told is None or self.told[0] == "refused"):
                self.told = self.all_wrong()

    def take(self, member, payment):
        if {cause for cause in self.made[payment][4] if cause is not None} <= self.books[member]:
            self.books[member].add(payment)

    def other_noted(self, member, payment):
        return self.notes[member].get(self.made[payment][:2], payment) != payment

    def ask(self, member, payment):
        purse, number, _, _, causes, sealed = self.made[payment]
        past = self.past(causes)
        if self.without != "carried":
            for lower in sorted(past):
                if lower in self.certified():
                    self.take(member, lower)
        checks = {
            "sealed": sealed,
            "covered": all(self.is_covered(at) for at in past | {payment}),
            "causes": {cause for cause in causes if cause is not None} <= self.books[member],
            "once": not self.other_noted(member, payment),
        }
        if all(holds or rule == self.without for rule, holds in checks.items()):
            self.notes[member][purse, number] = payment
            return True
        return False

    def refused(self, member, payment):
        past = self.past(self.made[payment][4])
        if self.made[payment][5] and all(self.is_covered(at) for at in past | {payment}):
            if past <= set(self.certified()) and not self.other_noted(member, payment):
                return ("refused", member, payment)
        return None

    def all_wrong(self):
        certified = self.certified()
        pairs = [(one, other) for one in certified for other in certified
                 if one < other and self.made[one][:2] == self.made[other][:2]]
        if pairs:
            return ("clash", *min(pairs))
        stolen = [at for at in certified if not self.made[at][5]]
        if stolen:
            return ("stolen", stolen[0])
        bare = [purse for purse in range(len(self.frame[0])) if self.held(purse, certified) < 0]
        return ("bare", bare[0]) if bare else None

    def votes(self):
        return tuple(tuple(sorted({member for member, payment in self.asked if payment == at}))
                     for at in range(len(self.made)))


def some_pay(dice, plain, poor=0.2):
    """A payment with the form, perhaps made already or not covered, out of what was made; None if none was met."""
    purses = range(len(plain.frame[0]))
    seen = set()
    for at in dice.sample(range(len(plain.made)), len(plain.made)):
        wider = seen | {at} | plain.past(plain.made[at][4])
        places = [plain.made[one][:2] for one in wider]
        if dice.random() < 0.7 and len(set(places)) == len(places):
            seen = wider
    purse = dice.choice(purses)
    causes = tuple(max([at for at in seen if plain.made[at][0] == one], key=lambda at: plain.made[at][1], default=None)
                   for one in purses)
    held = plain.held(purse, seen)
    if held < 1 and dice.random() > poor:
        return None
    amount = held + 1 if dice.random() < poor else dice.randint(1, max(1, held))
    number = 1 + sum(plain.made[at][0] == purse for at in seen)
    return (purse, number, dice.choice(purses), max(1, amount), causes)


def some_act(dice, plain, forge=0.1, poor=0.15, most=8):
    """An act that can be done, drawn; None if the draw met none."""
    members = range(plain.frame[1])
    way = dice.random()
    if not plain.made or way < 0.25 and len(plain.made) < most:
        told = some_pay(dice, plain, poor)
        act = None if told is None else ("forge" if dice.random() < forge else "pay",) + told
    elif way < 0.85:
        act = ("ask", dice.choice(members), dice.randrange(len(plain.made)))
    elif way < 0.93:
        act = ("take", dice.choice(members), dice.choice(plain.certified() or (0,)))
    else:
        act = ("fall", dice.choice(members))
    return act if act is not None and plain.can(act) else None
