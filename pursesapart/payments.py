"""Payments: their form, what they find, whether they are right, and what is wrong with them."""

from pursesapart.errors import BadPayment
from pursesapart.facts import fact_of
from pursesapart.trust import check_both


def has_outer_form(trust, bank, payment):
    """Whether any value is the name of a content of the outer form of a payment."""
    check_both(trust, bank)
    return trust.is_name(payment) and fact_of(trust, bank, payment).parts is not None


def payment_of(trust, bank, payment):
    """The tuple (purse, number, to, amount, causes) of the payment."""
    check_outer_form(trust, bank, payment)
    return fact_of(trust, bank, payment).parts


def past_of(trust, bank, payment):
    """The ascending tuple of the past of the payment, itself at its end."""
    check_outer_form(trust, bank, payment)
    return fact_of(trust, bank, payment).past


def has_form(trust, bank, payment):
    """Whether any value is the name of a payment that has the form."""
    check_both(trust, bank)
    return trust.is_name(payment) and fact_of(trust, bank, payment).formed


def held_ahead(trust, bank, payment):
    """What the payment finds in its purse by its past, perhaps below 0."""
    if not has_form(trust, bank, payment):
        raise BadPayment("a payment that has the form is wanted")
    return fact_of(trust, bank, payment).found


def is_right(trust, bank, payment):
    """Whether any value is the name of a right payment."""
    check_both(trust, bank)
    return trust.is_name(payment) and fact_of(trust, bank, payment).fault is None


def fault_of(trust, bank, payment):
    """None if the payment is right, otherwise what is wrong at the least name of its past."""
    check_outer_form(trust, bank, payment)
    return fact_of(trust, bank, payment).fault


def check_outer_form(trust, bank, payment):
    """BadPayment unless it is the name of a content of the outer form."""
    if not has_outer_form(trust, bank, payment):
        raise BadPayment("the name of a payment is wanted")
