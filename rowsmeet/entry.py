"""What hangs on the order in which the rows of a whole book were entered."""

from rowsmeet.asking import row_by_pairs
from rowsmeet.books import is_order
from rowsmeet.cells import cells
from rowsmeet.errors import NoEntry, NotWhole
from rowsmeet.firmness import unwhole_sale
from rowsmeet.kinds import is_index
from rowsmeet.orders import orders_of
from rowsmeet.rules import parts


def check_whole(rule, book):
    """NotWhole if the book is not whole by the rule, behind BadRule and BadBook."""
    sale = unwhole_sale(rule, book)
    if sale is not None:
        raise NotWhole(sale)


def pairs_kept(rule, book, lot):
    """The entry pairs of a sale to which just the rows of the lot apply."""
    best = row_by_pairs(rule, book, lot)
    found = []
    for other in lot:
        word = parts(rule, book, best, other)
        if word == "newest":
            found.append((other, best))
        if word == "oldest":
            found.append((best, other))
    return found


def entry_pairs(rule, book):
    """The ascending list of the entry pairs of a whole book."""
    check_whole(rule, book)
    return sorted({pair for lot, sale in cells(book) for pair in pairs_kept(rule, book, lot)})


def keeps(order, pairs):
    """Whether the first row of each pair stands ahead of the second one in the order."""
    return all([order.index(one) < order.index(other) for one, other in pairs])


def all_entries(rule, book):
    """The ascending list of the orders that leave each sale of a whole book its row."""
    pairs = entry_pairs(rule, book)
    return [order for order in orders_of(list(range(len(book)))) if keeps(order, pairs)]


def leaves(rule, book, order):
    """Whether any value is an order that leaves each sale of a whole book its row."""
    pairs = entry_pairs(rule, book)
    return is_order(order, len(book)) and keeps(order, pairs)


def entries(rule, book):
    """A generator of the orders that leave each sale of a whole book its row, ascending."""
    for order in all_entries(rule, book):
        yield order


def count_entries(rule, book):
    """How many orders leave each sale of a whole book its row."""
    return len(all_entries(rule, book))


def entry_at(rule, book, number):
    """The order with this number, from 0 on, of those that leave each sale of a whole book its row."""
    orders = all_entries(rule, book)
    if not is_index(number, len(orders)):
        raise NoEntry("not a number of an order of entry")
    return orders[number]
