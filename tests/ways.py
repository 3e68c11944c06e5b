"""All plans that go on from a plan in a small bank, step by step, to hold the program against."""

from tests.test_plans import plain_booked, plain_step


class Ways:
    """What can be reached from a plan by steps out of these, told by the sets of the further steps."""

    def __init__(self, plain, liars, plan, steps):
        self.plain = plain
        self.liars = liars
        self.plan = plan
        self.steps = steps
        self.levels = [{frozenset(): ()}]

    def level(self, many):
        """The dict from each reachable set of so many further steps to one row of them."""
        while len(self.levels) <= many:
            wider = {}
            for done, row in self.levels[-1].items():
                for step in self.steps:
                    if done | {step} not in wider and plain_step(self.plain, self.liars, self.plan + row, step):
                        wider[done | {step}] = row + (step,)
            self.levels.append(wider)
        return self.levels[many]

    def rows(self):
        """All reachable rows, the shorter ones first."""
        for many in range(len(self.steps) + 1):
            yield from self.level(many).values()

    def booked(self, row):
        """What is booked behind the row."""
        return plain_booked(self.plain, self.plan + row)

    def best(self, wanted):
        """The pair of the fewest steps behind which all wanted are booked, and the fewest of liars among them."""
        for many in range(len(self.steps) + 1):
            good = [row for row in self.level(many).values() if wanted <= set(self.booked(row))]
            if good:
                return many, min(sum(member in self.liars for member, _ in row) for row in good)
        return None


def all_steps(plain, names):
    """All pairs of a member and one of these payments."""
    return [(member, name) for member in range(plain.bank[1]) for name in names]
