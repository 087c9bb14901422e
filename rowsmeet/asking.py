"""Which row of a book counts for a sale, by pairs and by rounds, and what is told of it."""

from rowsmeet.checks import check_book, check_sale
from rowsmeet.rules import ahead, beats, check_rule


def rows_at(book, sale):
    """The ascending list of the rows that apply to the sale."""
    check_book(book)
    check_sale(sale)
    return [at for at, row in enumerate(book) if sale in row.box]


def row_by_pairs(rule, book, lot):
    """The row of the lot that beats all others of it, None if there is none."""
    for one in lot:
        if all([beats(rule, book, one, other) for other in lot if other != one]):
            return one
    return None


def by_pairs(rule, book, sale):
    """The row that applies to the sale and beats all others that do, None if there is none."""
    check_rule(rule)
    return row_by_pairs(rule, book, rows_at(book, sale))


def left_behind(word, book, lot):
    """The rows of the lot ahead of which the word puts no other row of the lot."""
    return tuple([one for one in lot if not any([ahead(word, book, other, one) for other in lot])])


def rounds(rule, book, sale):
    """The list of the tuples of the rows that are left, at first and behind each word of the rule."""
    check_rule(rule)
    left = tuple(rows_at(book, sale))
    all_left = [left]
    for word in rule.words:
        left = left_behind(word, book, left)
        all_left.append(left)
    return all_left


def by_rounds(rule, book, sale):
    """The ascending tuple of the rows that are left behind all words of the rule."""
    return rounds(rule, book, sale)[-1]


def told(rule, book, sale):
    """The price of the rows that are left by rounds; "none" if no row applies, "open" if they have several."""
    prices = sorted({book[at].price for at in by_rounds(rule, book, sale)})
    if not prices:
        return "none"
    return prices[0] if len(prices) == 1 else "open"


def unbeaten(rule, book, sale):
    """The ascending list of the rows that apply to the sale and that no other one that applies beats."""
    check_rule(rule)
    lot = rows_at(book, sale)
    return [one for one in lot if not any([beats(rule, book, other, one) for other in lot])]
