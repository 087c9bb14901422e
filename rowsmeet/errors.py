"""The errors of the package.

The messages never show a value: it may be of any kind, and a number may have
more digits than Python is willing to write. Attributes hold copies, so that
later changes to a list that was passed do not reach the error.
"""

from rowsmeet.kinds import copied


class PriceError(ValueError):
    """What all errors of the package have in common."""


class BadBox(PriceError):
    """A value that no box can have: part is the name of its place."""

    def __init__(self, part):
        super().__init__("not a part of a box, or not a box")
        self.part = copied(part)


class BadRow(PriceError):
    """A value that no row can have: part is the name of its place."""

    def __init__(self, part):
        super().__init__("not a part of a row, or not a row")
        self.part = copied(part)


class BadRows(PriceError):
    """No list of rows: at is the index of the first item that is no row, None if it is no list."""

    def __init__(self, at):
        super().__init__("not a list of rows")
        self.at = copied(at)


class TooMany(PriceError):
    """More than there can be: most is how many there can be."""

    def __init__(self, most):
        super().__init__("more than there can be")
        self.most = copied(most)


class NoRow(PriceError):
    """A value that is no index of a row of the book: at is this value."""

    def __init__(self, at):
        super().__init__("not an index of a row of the book")
        self.at = copied(at)


class BadRule(PriceError):
    """No rule, or no list of different words."""


class BadBook(PriceError):
    """No book."""


class BadSale(PriceError):
    """No sale, or no names of one."""


class BadSales(PriceError):
    """No list of sales: at is the index of the first item that is none, None if it is no list."""

    def __init__(self, at):
        super().__init__("not a list of sales")
        self.at = copied(at)


class BadLot(PriceError):
    """No lot of rows of the book, or no order of them."""


class NotWhole(PriceError):
    """A book that is not whole: a row applies to the sale, and it has no row by pairs."""

    def __init__(self, sale):
        super().__init__("not a whole book")
        self.sale = copied(sale)


class NoEntry(PriceError):
    """No number of an order of entry."""


class BadLog(PriceError):
    """No log: at is the index of the first entry that cannot stand, None if it is no list."""

    def __init__(self, at):
        super().__init__("not a log, or not a list of its entries")
        self.at = copied(at)


class BadDay(PriceError):
    """No day."""


class BadReceipts(PriceError):
    """No list of receipts: at is the index of the first item that is none, None if it is no list."""

    def __init__(self, at):
        super().__init__("not a list of receipts")
        self.at = copied(at)


class Shaky(PriceError):
    """A book that would not be firm: lot is a least lot of rows that shows it."""

    def __init__(self, lot):
        super().__init__("not a firm book")
        self.lot = copied(lot)


class NothingDone(PriceError):
    """No deed that stands."""


class BadText(PriceError):
    """No text of what is read: line is the number of the first line that is wrong."""

    def __init__(self, line):
        super().__init__("not a text of what is read")
        self.line = copied(line)
