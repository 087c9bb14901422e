"""What is asked of a book, of a sale and of lists of sales that are passed."""

from rowsmeet.books import Book
from rowsmeet.boxes import is_sale
from rowsmeet.errors import BadBook, BadSale, BadSales
from rowsmeet.kinds import is_list


def check_book(book):
    """BadBook unless the value is a book."""
    if not isinstance(book, Book):
        raise BadBook("not a book")


def check_sale(sale):
    """BadSale unless the value is a sale."""
    if not is_sale(sale):
        raise BadSale("not a sale")


def first_wrong(things, is_right):
    """The index of the first item that is not as it must be, None if all are."""
    for at, thing in enumerate(things):
        if not is_right(thing):
            return at
    return None


def check_sales(sales, is_right):
    """BadSales unless the value is a list of which each item is as it must be."""
    if not is_list(sales):
        raise BadSales(None)
    wrong = first_wrong(sales, is_right)
    if wrong is not None:
        raise BadSales(wrong)
