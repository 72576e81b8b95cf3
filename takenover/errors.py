"""All errors of the package.

No error makes a message out of its fields: they keep whatever was passed, also
what cannot be shown.
"""


class SheetError(ValueError):
    """What every error of the package is."""


class BadLog(SheetError):
    """No log can be made of this: part is "offices", "rows" or the number of a row."""

    def __init__(self, part):
        self.part = part


class NoDoing(SheetError):
    """This is no doing of the log."""

    def __init__(self):
        SheetError.__init__(self)


class NoOffice(SheetError):
    """This is no office."""

    def __init__(self):
        SheetError.__init__(self)


class OtherOffices(SheetError):
    """The logs have not as many offices."""

    def __init__(self):
        SheetError.__init__(self)


class NoNumber(SheetError):
    """This is no number that can stand here."""

    def __init__(self):
        SheetError.__init__(self)


class NoRow(SheetError):
    """This is no number of a row."""

    def __init__(self):
        SheetError.__init__(self)


class BadRow(SheetError):
    """This is no row of the log."""

    def __init__(self):
        SheetError.__init__(self)


class NoSheets(SheetError):
    """No sheets can be these."""

    def __init__(self):
        SheetError.__init__(self)


class NoCuts(SheetError):
    """No borders can stand so."""

    def __init__(self):
        SheetError.__init__(self)


class NoBorder(SheetError):
    """This is no border."""

    def __init__(self):
        SheetError.__init__(self)


class NoSide(SheetError):
    """This is neither "left" nor "right"."""

    def __init__(self):
        SheetError.__init__(self)


class NoPost(SheetError):
    """This is no post."""

    def __init__(self):
        SheetError.__init__(self)


class NoCut(SheetError):
    """This is no cut."""

    def __init__(self):
        SheetError.__init__(self)


class NoList(SheetError):
    """This is no list for the log."""

    def __init__(self):
        SheetError.__init__(self)


class NoOrder(SheetError):
    """This is no order that can stand here."""

    def __init__(self):
        SheetError.__init__(self)


class SureRow(SheetError):
    """The log has a sure row: row is the number of the first one."""

    def __init__(self, row):
        self.row = row


class NoEdition(SheetError):
    """This is no edition."""

    def __init__(self):
        SheetError.__init__(self)


class TooMany(SheetError):
    """There are too many: at most so many are let."""

    def __init__(self, most):
        self.most = most


class NoFinds(SheetError):
    """These are no finds of the log."""

    def __init__(self):
        SheetError.__init__(self)


class NoFind(SheetError):
    """This is no find, or no number of one."""

    def __init__(self):
        SheetError.__init__(self)


class NoMoment(SheetError):
    """This is no moment of the log."""

    def __init__(self):
        SheetError.__init__(self)


class NoChances(SheetError):
    """These are no chances for the rows of the log."""

    def __init__(self):
        SheetError.__init__(self)


class BadWeb(SheetError):
    """No web can be made of this: part is "offices", "rows" or the number of a row."""

    def __init__(self, part):
        self.part = part


class NoLot(SheetError):
    """This is no lot that can stand here."""

    def __init__(self):
        SheetError.__init__(self)


class NoWorths(SheetError):
    """These are no worths of the editions."""

    def __init__(self):
        SheetError.__init__(self)


class NothingDone(SheetError):
    """There is nothing that can be taken back."""

    def __init__(self):
        SheetError.__init__(self)


class NoMoments(SheetError):
    """These are no ascending moments of the log."""

    def __init__(self):
        SheetError.__init__(self)


class NoAnswer(SheetError):
    """The stranger gave no edition for this moment and office."""

    def __init__(self, moment, office):
        self.moment = moment
        self.office = office


class BadText(SheetError):
    """The text cannot be read: line is counted from 1, or 0 for what is no string."""

    def __init__(self, line):
        self.line = line


class NoLine(SheetError):
    """This is no line for the desk."""

    def __init__(self):
        SheetError.__init__(self)


class NoName(SheetError):
    """Nothing is kept under this name."""

    def __init__(self, name):
        self.name = name


class NoDenials(SheetError):
    """These are no denials."""

    def __init__(self):
        SheetError.__init__(self)


class NoHands(SheetError):
    """These are no hands that can stand here."""

    def __init__(self):
        SheetError.__init__(self)


class NoPair(SheetError):
    """This is no pair of an office and an edition."""

    def __init__(self):
        SheetError.__init__(self)


class NoChain(SheetError):
    """This is no chain."""

    def __init__(self):
        SheetError.__init__(self)
