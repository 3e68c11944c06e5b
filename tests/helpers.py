"""What many tests share: odd values, small banks, and quick ways to name payments and votes."""

from pursesapart import errors
from pursesapart.trust import Trust

SMALL = ((5, 0), 4, 1)
THREE = ((5, 0, 0), 4, 1)

LONG = 10 ** 18
BAD_TRUSTS = [None, True, 0, "trust", (), [], {}, SMALL, errors.BadTrust("any text")]
BAD_BANKS = [
    None, True, 0, "bank", (), [], {}, list(SMALL), SMALL[:2], SMALL + (0,), ([5, 0], 4, 1), (5, 4, 1),
    ((), 4, 1), ((1,) * 9, 4, 1), ((5, -1), 4, 1), ((True, 0), 4, 1), ((5, False), 4, 1), ((5, None), 4, 1),
    (("5", 0), 4, 1), ((LONG, 0), 4, 1), ((LONG - 1, 1), 4, 1), ((LONG // 2, LONG // 2), 4, 1), ((5, 0), 3, 1),
    ((5, 0), 0, 0), ((5, 0), 14, 1), ((5, 0), 13, 5), ((5, 0), 4, -1), ((5, 0), True, 0), ((5, 0), 4, True),
    ((5, 0), 4, False), ((5, 0), 1, False), ((5, 0), 4, None), ((5, 0), "4", 1), ((5, 0), None, 0),
    ((5, 0), [4], 1), ((5, 0), LONG, 1), ((5, 0), 4, LONG), (((5, 0),), 4, 1), Trust(),
]
BAD_PURSES = [-1, 2, True, False, None, "0", (0,), [0], LONG, -LONG, {}, Trust()]
BAD_AMOUNTS = [0, -1, True, False, None, "1", (1,), [1], LONG, {}, Trust()]


def nested(value, depth):
    """The value within so many tuples and lists in turns."""
    for level in range(depth):
        value = (value,) if level % 2 else [value]
    return value


def odd_values():
    """Values of every kind that are no names that were given, no lots, votes, papers or letters."""
    return [
        None, True, False, 0, 1, -1, 7, LONG, -LONG, "", "name", "pay", "most", "twice", [], {},
        (None,), (True,), (0,), ("name",), ("name", True), ("name", False), ("name", -1), ("name", LONG),
        ("name", LONG - 1), ("name", "0"), ("name", None), ("name", 0, 0), ["name", 0], {"name": 0}, {0: "name"},
        {True: 1}, (("name", 0),) * 2, ((), ()), ([], []), ("name", ()), (("name", LONG - 1),), [[]],
        Trust(), errors.BadLot("any text"), nested(0, 60), nested(("name", 0), 59), [Trust()], ("most", 0, (), ()),
        ("pay", 0, 1, 1, 5, (None, None)), ("vote", 0, ("name", 0)), ("wrong", ("name", LONG - 1)),
    ]


def check_errors(test, function, rows):
    """Each parameter's bad values raise its error, whatever stands in the parameters behind it.

    rows has for each parameter (name, good value, error or None, bad values). All good ones raise nothing.
    """
    good = [row[1] for row in rows]
    function(*good)
    function(**{row[0]: row[1] for row in rows})
    for at, (_, _, error, bads) in enumerate(rows):
        for bad in bads:
            with test.subTest(function=getattr(function, "__name__", "?"), at=at, bad=bad):
                check_raises(test, error, function, good[:at] + [bad] + good[at + 1:])
                worse = [row[3][0] if row[3] else row[1] for row in rows[at + 1:]]
                check_raises(test, error, function, good[:at] + [bad] + worse)


def check_raises(test, error, function, arguments):
    """The call raises just this error."""
    with test.assertRaises(error) as caught:
        function(*arguments)
    test.assertIs(type(caught.exception), error)


def pay(trust, purse, number, to, amount, *causes):
    """The name of this payment, not sealed."""
    return trust.name(("pay", purse, number, to, amount, causes))


def vote(trust, member, payment):
    """The name of the vote of the member, sealed by it."""
    name = trust.name(("vote", member, payment))
    trust.seal(("member", member), name)
    return name


def votes(trust, members, payment):
    """The list of the votes of these members for the payment."""
    return [vote(trust, member, payment) for member in members]


def certificate(trust, members, payment):
    """The certificate of the payment with the votes of these members, who must be as many as are wanted."""
    return (payment, tuple(sorted(votes(trust, members, payment))))


def chain(trust, bank, many):
    """So many payments of 1 from the purses in turns, each with all those ahead of it in its past."""
    purses = len(bank[0])
    lasts = [None] * purses
    names = []
    for at in range(many):
        purse = at % purses
        name = pay(trust, purse, at // purses + 1, (purse + 1) % purses, 1, *lasts)
        lasts[purse] = name
        names.append(name)
    return names


def paid(trust, purse, number, to, amount, *causes):
    """The name of this payment, sealed by its owner."""
    name = pay(trust, purse, number, to, amount, *causes)
    trust.seal(("owner", purse), name)
    return name


def sealed_chain(trust, bank, many):
    """The chain with the seals of the owners."""
    names = chain(trust, bank, many)
    for name in names:
        trust.seal(("owner", trust.content(name)[1]), name)
    return names


def certified(trust, bank, payment):
    """A certificate of the payment by the least members."""
    return certificate(trust, range(bank[1] - bank[2]), payment)


def bent_certificates(trust, good):
    """Values that are no certificates, each one the good one bent in a place; members 0, 1, 2 voted in it of 4."""
    payment, some = good
    more = trust.name(("vote", 3, payment))
    forged = trust.name(("vote", 2, payment, None))
    other = vote(trust, 3, pay(trust, 0, 77, 0, 1, *[None] * len(trust.content(payment)[5])))
    return [
        None, True, 0, "certificate", (), [], {}, payment, some, list(good), good + (None,), (payment,),
        (payment, list(some)), (payment, some[:2]), (payment, some[::-1]), (payment, some[:2] + some[1:2]),
        (payment, some[:2] + (more,)), (payment, some[:2] + (forged,)), (payment, some[:2] + (other,)),
        (payment, some + (more,)), (some[0], some), (payment, (payment,) + some[:2]), (payment, (some[0], True, some[2])),
        (payment, some[:2] + (None,)), (payment, some[:2] + (("name", LONG - 1),)), (payment, some[:2] + ([],)),
        (list(payment), some), (("name", LONG - 1), some), (None, some), ({}, some), (("name", True), some),
        (("name", False), some), (payment, {0: some[0]}), (payment, "ab"), (payment, (some,)), Trust(),
    ]


BAD_ROWS = [
    None, True, 0, (), (0,), (0, 0, 0), [0, 0], (0, -1), (True, 0), (0, False), (0, None), ("0", 0), (LONG, 0),
    ((0, 0),), (0, (0,)), {0: 0, 1: 0}, Trust(),
]
BAD_CONTENTS = [
    True, False, [], {}, LONG, -LONG, (True,), (0, (False,)), ((), [0]), (LONG,), ("pay", (None, {})), Trust(), b"a",
    ("name", True), ("name", LONG), nested(0, 60), (errors.BadCell("any text"),),
]
