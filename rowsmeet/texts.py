"""Texts of rules, rows, sales, books and logs, written and read. Each value has exactly one text."""

from rowsmeet.books import MOST_ROWS, RANKS, Book, Row
from rowsmeet.boxes import Box, is_name, is_stretch
from rowsmeet.checks import check_book, check_sale
from rowsmeet.errors import BadLog, BadRow, BadText, TooMany
from rowsmeet.kinds import is_index
from rowsmeet.logs import Log, check_log
from rowsmeet.rules import Rule, are_words, check_rule

# Numbers are written and read in pieces, as Python itself refuses those of very many digits.
PIECE_DIGITS = 18
PIECE = 1_000_000_000_000_000_000


def number_text(number):
    """A number from 0 on, as Python writes it."""
    pieces = []
    while number >= PIECE:
        number, low = divmod(number, PIECE)
        pieces.append(str(low).zfill(PIECE_DIGITS))
    pieces.append(str(number))
    return "".join(pieces[::-1])


def name_text(name):
    """A name, or the sign for all."""
    return "*" if name is None else name


def stretch_text(stretch):
    """The first and the last number of a stretch, if it has a last one."""
    first, last = stretch
    return number_text(first) + "-" + ("" if last is None else number_text(last))


def rule_text(rule):
    """The text of a rule."""
    check_rule(rule)
    return " ".join(rule.words)


def row_text(row):
    """The text of a row."""
    if not isinstance(row, Row):
        raise BadRow("row")
    box = row.box
    names, stretches = [name_text(box.who), name_text(box.what)], [stretch_text(box.days), stretch_text(box.amounts)]
    return " ".join([*names, *stretches, number_text(row.price), number_text(row.rank)])


def sale_text(sale):
    """The text of a sale."""
    check_sale(sale)
    who, what, day, amount = sale
    return " ".join([who, what, number_text(day), number_text(amount)])


def deed_text(deed):
    """The text of a deed."""
    if deed[0] == "put":
        return "put " + row_text(deed[1])
    return " ".join([deed[0], *[number_text(number) for number in deed[1:]]])


def book_text(book):
    """The text of a book: a line for each row."""
    check_book(book)
    return "".join([row_text(row) + "\n" for row in book])


def log_text(log):
    """The text of a log: a line for each entry."""
    check_log(log)
    return "".join([number_text(day) + " " + deed_text(deed) + "\n" for day, deed in log.entries])


def check_text(text):
    """BadText unless the value is a string."""
    if not isinstance(text, str):
        raise BadText(0)


def pieces_in(text, many, line):
    """So many pieces of a text, separated by single spaces. The text stands in this line, as in all that follows."""
    pieces = text.split(" ")
    if len(pieces) != many:
        raise BadText(line)
    return pieces


def number_in(text, line):
    """The number with this text."""
    has_digits = text != "" and all(["0" <= sign <= "9" for sign in text])
    if not has_digits or (text[0] == "0" and text != "0"):
        raise BadText(line)
    number = 0
    padded = text.zfill(len(text) + -len(text) % PIECE_DIGITS)
    for at in range(0, len(padded), PIECE_DIGITS):
        number = number * PIECE + int(padded[at:at + PIECE_DIGITS])
    return number


def name_in(text, line):
    """The name with this text."""
    if not is_name(text):
        raise BadText(line)
    return text


def name_or_all_in(text, line):
    """The name with this text, None for the sign for all."""
    return None if text == "*" else name_in(text, line)


def stretch_in(text, line):
    """The stretch with this text."""
    first, dash, last = text.partition("-")
    if dash == "":
        raise BadText(line)
    stretch = (number_in(first, line), None if last == "" else number_in(last, line))
    if not is_stretch(stretch):
        raise BadText(line)
    return stretch


def row_in(text, line):
    """The row with this text."""
    who, what, days, amounts, price, rank = pieces_in(text, 6, line)
    names = (name_or_all_in(who, line), name_or_all_in(what, line))
    box = Box(names[0], names[1], stretch_in(days, line), stretch_in(amounts, line))
    row_price, row_rank = number_in(price, line), number_in(rank, line)
    if not is_index(row_rank, RANKS):
        raise BadText(line)
    return Row(box, row_price, row_rank)


def deed_in(text, line):
    """The deed with this text, whether or not it can be done."""
    word, space, rest = text.partition(" ")
    if word == "put":
        return ("put", row_in(rest, line))
    if word == "end":
        number, day = pieces_in(rest, 2, line)
        return ("end", number_in(number, line), number_in(day, line))
    if word == "take":
        return ("take", number_in(rest, line))
    raise BadText(line)


def read_rule(text):
    """The rule with exactly this text."""
    check_text(text)
    words = [] if text == "" else text.split(" ")
    if not are_words(words):
        raise BadText(0)
    return Rule(words)


def read_row(text):
    """The row with exactly this text."""
    check_text(text)
    return row_in(text, 0)


def read_sale(text):
    """The sale with exactly this text."""
    check_text(text)
    who, what, day, amount = pieces_in(text, 4, 0)
    return (name_in(who, 0), name_in(what, 0), number_in(day, 0), number_in(amount, 0))


def check_ended(pieces):
    """BadText unless the last line of a text, split at newlines, is ended by one."""
    if pieces[-1] != "":
        raise BadText(len(pieces) - 1)


def read_book(text):
    """The book with exactly this text."""
    check_text(text)
    pieces, rows = text.split("\n"), []
    for line, piece in enumerate(pieces[:-1]):
        rows.append(row_in(piece, line))
        if len(rows) > MOST_ROWS:
            raise BadText(line)
    check_ended(pieces)
    return Book(rows)


def with_entry_in(log, text, line):
    """The log with the entry of this text behind all others."""
    known, space, rest = text.partition(" ")
    day, deed = number_in(known, line), deed_in(rest, line)
    try:
        return log.with_entry(day, deed)
    except (BadLog, TooMany):
        raise BadText(line) from None


def read_log(text):
    """The log with exactly this text."""
    check_text(text)
    pieces, log = text.split("\n"), Log()
    for line, piece in enumerate(pieces[:-1]):
        log = with_entry_in(log, piece, line)
    check_ended(pieces)
    return log
