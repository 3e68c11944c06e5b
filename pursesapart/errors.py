"""The errors of the package, all of them directly below PurseError."""


class PurseError(ValueError):
    """Whatever this package refuses."""


class BadAct(PurseError):
    """No act that can be done now."""


class BadAgreed(PurseError):
    """Neither True nor False where it is told whether owners agreed."""


class BadAmount(PurseError):
    """No number from 1 on where an amount is wanted."""


class BadBank(PurseError):
    """No bank."""


class BadBook(PurseError):
    """No book, or one of another trust or bank."""


class BadBooks(PurseError):
    """No list of books."""


class BadCell(PurseError):
    """No string where the name of a cell is wanted."""


class BadCells(PurseError):
    """No dict from strings to contents."""


class BadCertificate(PurseError):
    """No certificate."""


class BadCertificates(PurseError):
    """No list of certificates that is wanted."""


class BadCharter(PurseError):
    """No charter of a shared purse."""


class BadCheats(PurseError):
    """No ascending list of purses whose owners lie."""


class BadContent(PurseError):
    """No content of a book of names."""


class BadDisk(PurseError):
    """No disk."""


class BadEnd(PurseError):
    """Neither an owner nor a member of the bank."""


class BadFrame(PurseError):
    """No frame of a drill."""


class BadFuse(PurseError):
    """Neither None nor a number from 0 on."""


class BadHands(PurseError):
    """No number of hands."""


class BadKept(PurseError):
    """No triple of what is kept of a part."""


class BadLeast(PurseError):
    """No number of owners that a lot can have."""


class BadLetter(PurseError):
    """No letter of the bank."""


class BadLiars(PurseError):
    """No ascending row of members that lie."""


class BadLot(PurseError):
    """No lot of payments that is wanted."""


class BadMany(PurseError):
    """No number that is wanted where it is asked how many."""


class BadMember(PurseError):
    """No number of a member."""


class BadMembers(PurseError):
    """No ascending tuple of members."""


class BadName(PurseError):
    """No name that was given."""


class BadNumber(PurseError):
    """No number of a letter on the road."""


class BadOwner(PurseError):
    """No number of an owner of a shared purse."""


class BadOwners(PurseError):
    """No owners that are wanted."""


class BadPaper(PurseError):
    """No paper that convicts."""


class BadPart(PurseError):
    """No lot within the lot."""


class BadPayment(PurseError):
    """No payment that is wanted."""


class BadPayments(PurseError):
    """No list of payments that is wanted."""


class BadPicks(PurseError):
    """No picks that are wanted."""


class BadPlan(PurseError):
    """No plan."""


class BadProposer(PurseError):
    """Nobody who may propose."""


class BadProposers(PurseError):
    """No ascending tuple of those who may propose."""


class BadPurse(PurseError):
    """No number of a purse."""


class BadPurses(PurseError):
    """No ascending tuple of purses."""


class BadRow(PurseError):
    """No tuple with a number from 0 on for each purse."""


class BadRule(PurseError):
    """No name of a care rule."""


class BadRun(PurseError):
    """No list of acts."""


class BadSequence(PurseError):
    """No sequence of the lot."""


class BadShelf(PurseError):
    """No shelf."""


class BadSplit(PurseError):
    """No split of the charter."""


class BadSteps(PurseError):
    """No tuple of steps of the web."""


class BadText(PurseError):
    """No text of its kind: line is the first line that is not as told."""

    def __init__(self, line):
        self.line = line


class BadTimes(PurseError):
    """No number of times that is wanted."""


class BadTrust(PurseError):
    """No Trust."""


class BadVote(PurseError):
    """No name of a vote, or no list of such."""


class BadVotes(PurseError):
    """No list of names of votes."""


class BadWeaving(PurseError):
    """No tuple in which each hand stands twice."""


class BadWeb(PurseError):
    """No web of payments."""


class BadWho(PurseError):
    """Nobody who is meant: no owner and no member."""


class BadWishes(PurseError):
    """No tuple of wishes."""


class Busy(PurseError):
    """The owner has a payment that is not booked yet."""


class Clash(PurseError):
    """Two unlike payments have one purse and one number."""

    def __init__(self, one, other):
        self.one = one
        self.other = other


class Empty(PurseError):
    """Nothing is in the purse."""


class Fell(PurseError):
    """The fuse of the disk burnt down ahead of this write."""


class FewLie(PurseError):
    """Fewer members lie than are wanted."""


class Gone(PurseError):
    """The end fell and has not come back."""


class MoreLie(PurseError):
    """More members lie than the bank allows."""

    def __init__(self, liars):
        self.liars = liars


class NoClash(PurseError):
    """The two payments do not clash."""


class NotGone(PurseError):
    """The end has not fallen."""


class NotHere(PurseError):
    """The book does not have the payment."""


class NotRight(PurseError):
    """The payment is not right."""


class NotSettling(PurseError):
    """So many hands settle nothing: most is how many can."""

    def __init__(self, most):
        self.most = most


class Poor(PurseError):
    """The purse holds less than the amount: has is what it holds."""

    def __init__(self, has):
        self.has = has


class StillHeld(PurseError):
    """Something holds the part: holder tells what."""

    def __init__(self, holder):
        self.holder = holder


class TooMany(PurseError):
    """There are more than are listed."""
