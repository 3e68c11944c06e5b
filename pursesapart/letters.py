"""Letters between owners and members, looked at by their form alone."""

from pursesapart.checks import check_bank, is_ascending, is_member, is_name_pair, is_purse, is_row


def is_letter(bank, value):
    """Whether any value is a letter: (sender, receiver, body)."""
    check_bank(bank)
    if not isinstance(value, tuple) or len(value) != 3:
        return False
    sender, receiver, body = value
    if not is_end(bank, sender) or not is_end(bank, receiver):
        return False
    return is_body(bank, sender[0], receiver[0], body)


def is_end(bank, value):
    """Whether any value is an owner or a member of the bank."""
    if not isinstance(value, tuple) or len(value) != 2:
        return False
    if value[0] == "owner":
        return is_purse(bank, value[1])
    return value[0] == "member" and is_member(bank, value[1])


def is_body(bank, sender, receiver, value):
    """Whether any value is a body that such a sender can write to such a receiver."""
    if not isinstance(value, tuple) or not 2 <= len(value) <= 3:
        return False
    if len(value) == 3:
        return value[0] == "ask" and sender == "owner" and receiver == "member" and is_asking(value)
    word, told = value
    if word == "vote":
        return sender == "member" and receiver == "owner" and is_name_pair(told)
    if word == "tell":
        return are_certificates(told)
    return word == "want" and is_row(bank, told)


def is_asking(body):
    """Whether a body of three has the form of one that asks for a vote."""
    return is_name_pair(body[1]) and are_certificates(body[2])


def are_certificates(value):
    """Whether any value is a tuple of pairs that have the form of certificates."""
    return isinstance(value, tuple) and all([looks_certified(item) for item in value])


def looks_certified(value):
    """Whether any value is a pair of what looks like a name and an ascending tuple of unlike such."""
    if not isinstance(value, tuple) or len(value) != 2:
        return False
    payment, votes = value
    if not is_name_pair(payment) or not isinstance(votes, tuple):
        return False
    return all([is_name_pair(vote) for vote in votes]) and is_ascending(votes)
