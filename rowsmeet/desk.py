"""A desk that answers lines of text from a house."""

from rowsmeet.asking import rounds
from rowsmeet.errors import BadText, NoRow, NothingDone, Shaky, TooMany
from rowsmeet.firmness import shaky
from rowsmeet.house import House
from rowsmeet.matter import least_lots
from rowsmeet.texts import number_in, number_text, pieces_in, read_row, read_rule, read_sale, row_text, sale_text

INDEX_DIGITS = 3
DAY_DIGITS = 9
DONE = "ok"


def short_number_in(text, digits):
    """The number with this text, of at most so many digits."""
    if len(text) > digits:
        raise BadText(0)
    return number_in(text, 0)


def indexes_text(lot):
    """The indexes of rows separated by commas, a dash for none."""
    return ",".join([str(at) for at in lot]) or "-"


def put_row(house, text):
    """The row of this text is put."""
    house.put(read_row(text))
    return DONE


def take_row(house, text):
    """The row of this index is taken."""
    house.take(short_number_in(text, INDEX_DIGITS))
    return DONE


def end_row(house, text):
    """The row of this index is ended on this day."""
    at, day = pieces_in(text, 2, 0)
    house.end(short_number_in(at, INDEX_DIGITS), short_number_in(day, DAY_DIGITS))
    return DONE


def ask_sale(house, text):
    """What is told of the sale."""
    found = house(read_sale(text))
    return found if isinstance(found, str) else number_text(found)


def row_of_sale(house, text):
    """The row by pairs of the sale."""
    at = house.row_of(read_sale(text))
    return "none" if at is None else str(at)


def rounds_of_sale(house, text):
    """The rows that are left of the sale, at first and behind each word."""
    return "; ".join([indexes_text(left) for left in rounds(house.rule, house.book, read_sale(text))])


def undo_deed(house):
    """The last deed is taken back."""
    house.undo()
    return DONE


def firm_or_lot(house):
    """Whether the book is firm; otherwise a least lot and a sale that show that it is not."""
    found = shaky(house.rule, house.book)
    if found is None:
        return "yes"
    return indexes_text(found[0]) + " " + sale_text(found[1])


def texts_of_rows(house):
    """The texts of all rows."""
    return "; ".join([row_text(row) for row in house.book]) or "none"


def first_spare_lot(house):
    """The first of the least lots that tell as much as the book."""
    return indexes_text(least_lots(house.rule, house.book)[0])


# What is done for a line of a word alone, and for one of a word, a space and a text.
BY_WORD = {"undo": undo_deed, "firm": firm_or_lot, "rows": texts_of_rows, "spare": first_spare_lot}
BY_WORD_AND_TEXT = {
    "put": put_row, "take": take_row, "end": end_row,
    "ask": ask_sale, "row": row_of_sale, "rounds": rounds_of_sale,
}


def answered(house, line):
    """The answer of a house to a line, which may raise an error; BadText if the line has none of the forms."""
    if not isinstance(line, str):
        raise BadText(0)
    if line in BY_WORD:
        answer = BY_WORD[line]
        return answer(house)
    word, space, text = line.partition(" ")
    if word not in BY_WORD_AND_TEXT:
        raise BadText(0)
    answer_to_text = BY_WORD_AND_TEXT[word]
    return answer_to_text(house, text)


class Desk:
    """A desk with a house by the rule of a text."""

    def __init__(self, text, strict=False):
        self.house = House(read_rule(text), strict)

    def reply(self, line):
        """The answer to any value."""
        try:
            return answered(self.house, line)
        except BadText:
            return "not understood"
        except NoRow:
            return "error NoRow"
        except TooMany:
            return "error TooMany"
        except Shaky:
            return "error Shaky"
        except NothingDone:
            return "error NothingDone"
