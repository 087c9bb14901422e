"""What the price of a row can be, if receipts say what was told of sales."""

from rowsmeet.asking import told
from rowsmeet.books import Book, Row, check_at
from rowsmeet.boxes import is_sale
from rowsmeet.cells import telling_numbers
from rowsmeet.checks import check_book, first_wrong
from rowsmeet.errors import BadReceipts, TooMany
from rowsmeet.forms import runs
from rowsmeet.kinds import is_count, is_list
from rowsmeet.rules import check_rule

MOST_RECEIPTS = 20


def is_receipt(thing):
    """Whether the value is a pair of a sale and of what may be told of one."""
    if not isinstance(thing, tuple) or len(thing) != 2:
        return False
    sale, said = thing
    return is_sale(sale) and (is_count(said) or said in ("none", "open"))


def check_receipts(receipts):
    """BadReceipts unless the value is a list of receipts, TooMany if there are too many."""
    if not is_list(receipts):
        raise BadReceipts(None)
    wrong = first_wrong(receipts, is_receipt)
    if wrong is not None:
        raise BadReceipts(wrong)
    if len(receipts) > MOST_RECEIPTS:
        raise TooMany(MOST_RECEIPTS)


def with_price(book, at, price):
    """The book in which this row has this price."""
    row = Row(book[at].box, price, book[at].rank)
    return Book([*book.rows[:at], row, *book.rows[at + 1:]])


def tells_all(rule, book, receipts):
    """Whether of the sale of each receipt just what it says is told."""
    return all([told(rule, book, sale) == said for sale, said in receipts])


def prices_back(rule, book, at, receipts):
    """The ascending list of the longest stretches of prices of this row with which all receipts are as they are."""
    check_rule(rule)
    check_book(book)
    check_at(book, at)
    check_receipts(receipts)
    other_prices = [row.price for other, row in enumerate(book) if other != at]
    prices_said = [said for sale, said in receipts if is_count(said)]
    # Between two neighbours of these numbers no price compares otherwise with a row, and none is what a receipt says.
    starts = telling_numbers([(price, price) for price in other_prices + prices_said])
    fits = [tells_all(rule, with_price(book, at, start), receipts) for start in starts]
    return [stretch for stretch, does_fit in runs(starts, fits) if does_fit]
