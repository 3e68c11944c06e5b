"""What numbers, banks, purses, members and pairs that look like names are."""

from pursesapart.errors import BadAmount, BadBank, BadPurse

FIRST_TOO_LONG = 1000000000000000000
MOST_PURSES = 8
MOST_MEMBERS = 13


def is_number(value):
    """Whether any value is an int of at most 18 digits; True and False are none."""
    if not isinstance(value, int) or isinstance(value, bool):
        return False
    return -FIRST_TOO_LONG < value < FIRST_TOO_LONG


def is_number_from(value, least):
    """Whether any value is a number and not below the least one."""
    return is_number(value) and value >= least


def is_number_below(value, limit):
    """Whether any value is a number from 0 on below the limit."""
    return is_number_from(value, 0) and value < limit


def is_ascending(values):
    """Whether each of these numbers, or of these names, is less than the next one."""
    return all([values[at] < values[at + 1] for at in range(len(values) - 1)])


def is_begin(value):
    """Whether any value tells what can be in the purses of a bank at first."""
    if not isinstance(value, tuple) or not 1 <= len(value) <= MOST_PURSES:
        return False
    return all([is_number_from(held, 0) for held in value]) and is_number(sum(value))


def is_bank(value):
    """Whether any value is a bank: (begin, members, lies)."""
    if not isinstance(value, tuple) or len(value) != 3:
        return False
    begin, members, lies = value
    if not is_begin(begin) or not is_number_from(lies, 0):
        return False
    return is_number_from(members, 3 * lies + 1) and members <= MOST_MEMBERS


def check_bank(bank):
    """BadBank unless it is one."""
    if not is_bank(bank):
        raise BadBank("a bank is a tuple (begin, members, lies)")


def need_of(bank):
    """How many votes are wanted in the bank."""
    check_bank(bank)
    return bank[1] - bank[2]


def is_purse(bank, value):
    """Whether any value is the number of a purse."""
    return is_number_below(value, len(bank[0]))


def check_purse(bank, purse):
    """BadPurse unless it is the number of a purse."""
    if not is_purse(bank, purse):
        raise BadPurse("a purse is told by its number, from 0 on")


def is_member(bank, value):
    """Whether any value is the number of a member."""
    return is_number_below(value, bank[1])


def are_ascending_purses(bank, values):
    """Whether these values are unlike ascending numbers of purses."""
    return all([is_purse(bank, value) for value in values]) and is_ascending(values)


def are_ascending_members(bank, values):
    """Whether these values are unlike ascending numbers of members."""
    return all([is_member(bank, value) for value in values]) and is_ascending(values)


def is_row(bank, value):
    """Whether any value is a tuple with a number from 0 on for each purse."""
    if not isinstance(value, tuple) or len(value) != len(bank[0]):
        return False
    return all([is_number_from(many, 0) for many in value])


def check_amount(amount):
    """BadAmount unless it is a number from 1 on."""
    if not is_number_from(amount, 1):
        raise BadAmount("an amount is a number from 1 on")


def is_name_pair(value):
    """Whether any value looks like a name, given or not."""
    if not isinstance(value, tuple) or len(value) != 2:
        return False
    return value[0] == "name" and is_number_from(value[1], 0)
