"""Runs that go wrong without a care rule, and runs that go wrong with too few members."""

from pursesapart.checks import MOST_MEMBERS, is_number_from
from pursesapart.drills import check_rule
from pursesapart.errors import BadFrame

ONE = ((5, 0), 1, 0)
TWO = ((5, 0), 2, 0)
# Two payments of purse 0 with one number, and one of purse 1 out of what the first of them brings.
ALL = ("pay", 0, 1, 1, 5, (None, None))
LESS = ("pay", 0, 1, 1, 4, (None, None))
ONWARD = ("pay", 1, 1, 0, 5, (0, None))


def run_without(rule):
    """A triple (frame, liars, run) of a run that goes wrong at its last act if the rule is not minded."""
    check_rule(rule)
    return runs_by_rule()[rule]


def runs_by_rule():
    """The dict from each care rule to a run that goes wrong without it."""
    return {
        "once": (ONE, (), (ALL, LESS, ("ask", 0, 0), ("ask", 0, 1))),
        "written": (ONE, (), (ALL, LESS, ("ask", 0, 0), ("fall", 0), ("ask", 0, 1))),
        "causes": (ONE, (), (ALL, ONWARD, ("ask", 0, 1))),
        "covered": (ONE, (), (("pay", 0, 1, 1, 6, (None, None)), ("ask", 0, 0))),
        "sealed": (ONE, (), (("forge", 0, 1, 1, 5, (None, None)), ("ask", 0, 0))),
        "enough": (TWO, (), (ALL, LESS, ("ask", 0, 0), ("ask", 1, 1))),
        "unlike": (TWO, (), (ALL, LESS, ("ask", 0, 0), ("ask", 0, 0), ("ask", 1, 1), ("ask", 1, 1))),
        "carried": (ONE, (), (ALL, ONWARD, ("ask", 0, 0), ("ask", 0, 1))),
        "members": (((5, 0), 2, 1), (), (ALL, LESS, ("ask", 0, 0), ("ask", 1, 1))),
    }


def few_run(members, lies):
    """A triple (frame, liars, run) of a run that goes wrong at its last act with so few members."""
    if not is_number_from(lies, 1) or not is_number_from(members, lies + 1):
        raise BadFrame("a number of members above that of those who may lie is wanted")
    if members > 3 * lies or members > MOST_MEMBERS:
        raise BadFrame("at most three times as many members as may lie are wanted, and at most 13")
    liars = tuple(range(members - lies, members))
    others = range(members - lies)
    # All who lie vote for both payments, and the others, each for one, are enough to certify both.
    lacking = max(0, members - 2 * lies)
    asks = []
    for payment in range(2):
        voters = list(liars)[:members - lies] + list(others)[payment * lacking:(payment + 1) * lacking]
        asks.extend([("ask", voter, payment) for voter in voters])
    return (((5, 0), members, lies), liars, (ALL, LESS) + tuple(asks))
