"""Books: certificates of right payments, each one booked as soon as all its causes are."""

from pursesapart.checks import is_row, need_of
from pursesapart.errors import BadBook, BadCertificate, BadCertificates, BadRow, BadVotes, Clash, NotHere, NotRight
from pursesapart.facts import fact_of, facts_with, lasts_among, least_clash, named_causes, purses_behind
from pursesapart.payments import is_right
from pursesapart.trust import check_both
from pursesapart.votes import ballot_of, certificate_out_of, is_certificate, votes_by_payment


class Book:
    """Certificates of payments that do not clash: booked, or waiting for their causes."""

    def __init__(self, trust, bank):
        check_both(trust, bank)
        self.trust = trust
        self.bank = bank
        self._certificates = {}
        self._places = {}
        self._booked = {}
        self._awaited = {}

    def take(self, certificate):
        """The ascending tuple of the payments that are booked by the certificate."""
        if not is_certificate(self.trust, self.bank, certificate):
            raise BadCertificate("a certificate is wanted")
        payment = certificate[0]
        if not is_right(self.trust, self.bank, payment):
            raise NotRight("a certificate for a right payment is wanted")
        rival = self.rival_of(payment)
        if rival is not None:
            raise Clash(payment, rival)
        return self.put(certificate)

    def booked(self):
        """The ascending tuple of the payments that are booked."""
        return tuple(sorted(self._booked))

    def waiting(self):
        """The ascending tuple of the payments that are waiting."""
        return tuple([payment for payment in self.here() if payment not in self._booked])

    def certificate(self, payment):
        """The certificate of a payment that is booked or waiting."""
        if not self.trust.is_name(payment) or payment not in self._certificates:
            raise NotHere("no certificate of this payment is here")
        return self._certificates[payment]

    def row(self):
        """The tuple with, for each purse, how many of its payments are booked."""
        row = [0] * len(self.bank[0])
        for payment in self._booked:
            row[self._parts_of(payment)[0]] += 1
        return tuple(row)

    def last(self):
        """The tuple with, for each purse, its booked payment with the greatest number, None if there is none."""
        return tuple(lasts_among(self._booked_facts(), self.booked(), len(self.bank[0])))

    def purses(self):
        """The tuple of what is in each purse by the booked payments."""
        return tuple(purses_behind(self.bank, self._booked_facts(), self.booked()))

    def copy(self):
        """A book of its own with the same certificates."""
        return book_with(self.trust, self.bank, [self._certificates[payment] for payment in self.here()])

    def __eq__(self, other):
        if not isinstance(other, Book):
            return False
        if self.trust != other.trust or self.bank != other.bank:
            return False
        return self.booked() == other.booked() and self.waiting() == other.waiting()

    def here(self):
        """The ascending list of all payments that are booked or waiting."""
        return sorted(self._certificates)

    def rival_of(self, payment):
        """The payment that is here and clashes with a right payment, None if there is none."""
        rival = self._places.get(self._parts_of(payment)[:2])
        if rival == payment:
            return None
        return rival

    def put(self, certificate):
        """Does what take does with a certificate for a right payment that clashes with nothing here."""
        payment = certificate[0]
        if payment in self._certificates:
            return ()
        parts = self._parts_of(payment)
        self._certificates[payment] = certificate
        self._places[parts[:2]] = payment
        for cause in named_causes(parts):
            self._awaited.setdefault(cause, []).append(payment)
        return tuple(sorted(self._book_from(payment)))

    def _book_from(self, payment):
        booked = []
        ready = [payment]
        while ready:
            name = ready.pop()
            if self._can_be_booked(name):
                self._booked[name] = True
                booked.append(name)
                ready.extend(self._awaited.get(name, []))
        return booked

    def _can_be_booked(self, payment):
        if payment in self._booked:
            return False
        return all([cause in self._booked for cause in named_causes(self._parts_of(payment))])

    def _parts_of(self, payment):
        return fact_of(self.trust, self.bank, payment).parts

    def _booked_facts(self):
        return facts_with(self.trust, self.bank, self.booked())


def book_with(trust, bank, certificates):
    """The book of certificates that are known to be such for right payments without a clash."""
    book = Book(trust, bank)
    for certificate in certificates:
        book.put(certificate)
    return book


def book_of(trust, bank, certificates):
    """The book into which the certificates of the list are taken, one behind another."""
    check_both(trust, bank)
    if not isinstance(certificates, (list, tuple)):
        raise BadCertificates("a list of certificates is wanted")
    for item in certificates:
        if not is_certificate(trust, bank, item) or not is_right(trust, bank, item[0]):
            raise BadCertificates("certificates for right payments are wanted")
    payments = sorted({item[0]: True for item in certificates})
    if least_clash(facts_with(trust, bank, payments), payments) is not None:
        raise BadCertificates("certificates for payments that do not clash are wanted")
    return book_with(trust, bank, certificates)


def check_book(value):
    """BadBook unless it is a book."""
    if not isinstance(value, Book):
        raise BadBook("a Book is wanted")


def check_books(one, other):
    """BadBook unless both are books, of one trust and one bank."""
    check_book(one)
    check_book(other)
    if one.trust != other.trust or one.bank != other.bank:
        raise BadBook("books with one trust and one bank are wanted")


def certificates(book):
    """The list of the certificates of all booked payments, by ascending names of the payments."""
    check_book(book)
    return [book.certificate(payment) for payment in book.booked()]


def joined_books(one, other):
    """A new book with the certificates of both, those of one for payments that both have."""
    check_books(one, other)
    for payment in one.here():
        rival = other.rival_of(payment)
        if rival is not None:
            raise Clash(payment, rival)
    book = one.copy()
    for payment in other.here():
        book.put(other.certificate(payment))
    return book


def is_part_of(one, other):
    """Whether each payment that is booked in one is booked in other."""
    check_books(one, other)
    there = {payment: True for payment in other.booked()}
    return all([payment in there for payment in one.booked()])


def common_book(one, other):
    """A new book with the certificates, as they are in one, of the payments that are booked in both."""
    check_books(one, other)
    there = {payment: True for payment in other.booked()}
    both = [payment for payment in one.booked() if payment in there]
    return book_with(one.trust, one.bank, [one.certificate(payment) for payment in both])


def lacking(book, row):
    """The list of the certificates of the booked payments whose numbers are above the row."""
    check_book(book)
    if not is_row(book.bank, row):
        raise BadRow("a row has a number from 0 on for each purse")
    lacked = []
    for payment in book.booked():
        purse, number, _, _, _ = fact_of(book.trust, book.bank, payment).parts
        if number > row[purse]:
            lacked.append(book.certificate(payment))
    return lacked


def book_of_votes(trust, bank, votes):
    """The book with a certificate for each payment for which there are enough of the votes."""
    check_both(trust, bank)
    if not isinstance(votes, (list, tuple)):
        raise BadVotes("a list of names of votes is wanted")
    ballots = [ballot_of(trust, bank, vote) for vote in votes]
    if None in ballots:
        raise BadVotes("names of votes are wanted")
    chosen = votes_by_payment(votes, ballots)
    payments = sorted([payment for payment in chosen if len(chosen[payment]) >= need_of(bank)])
    if not all([is_right(trust, bank, payment) for payment in payments]):
        raise NotRight("a payment with enough votes is not right")
    clash = least_clash(facts_with(trust, bank, payments), payments)
    if clash is not None:
        raise Clash(clash[0], clash[1])
    return book_with(trust, bank, [certificate_out_of(bank, payment, chosen[payment]) for payment in payments])
