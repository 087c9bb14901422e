"""What functions do with wrong arguments, and with the names of their parameters."""

import itertools

from rowsmeet.books import Book
from rowsmeet.boxes import Box
from rowsmeet.errors import (
    BadBook, BadDay, BadLog, BadReceipts, BadRow, BadRule, BadSale, BadSales, BadText, NoRow, PriceError,
)
from rowsmeet.logs import Log
from rowsmeet.rules import Rule
from tests.values import BIG, nested, other_kinds, plain_kinds, row

BOOK = Book([row(7, days=(30, 36)), row(8, who="ann", days=(33, None)), row(10, days=(0, 90))])

# For each kind of parameter: a good value, the error, and wrong values.
RULE = (Rule(["narrowest", "newest"]), BadRule, other_kinds() + [
    None, 0, "newest", ["newest"], ("newest",), Box(), BOOK, row(), nested(20), b""])
A_BOOK = (BOOK, BadBook, other_kinds() + [
    None, 0, "book", [row()], (row(),), list(BOOK), BOOK.rows, row(), Box(), Rule(), nested(20), b""])
SALE = (("ann", "tea", 35, 2), BadSale, other_kinds() + [
    None, 0, "anna", ["ann", "tea", 35, 2], ("ann", "tea", 35), ("ann", "tea", 35, 2, 1), ("Ann", "tea", 35, 2),
    ("", "tea", 35, 2), ("abcdefghi", "tea", 35, 2), (None, "tea", 35, 2), ("ann", None, 35, 2), ("ann", "t-a", 35, 2),
    ("ann", "tea", -1, 2), ("ann", "tea", 35, -1), ("ann", "tea", True, 2), ("ann", "tea", 35, False),
    ("ann", "tea", None, 2), ("ann", "tea", (35, 36), 2), ("ann", "tea", "35", 2), ("ann", ["tea"], 35, 2),
    Box("ann"), BOOK, row(), Rule(), nested(20), b""])
INDEX = (1, NoRow, other_kinds() + [
    None, 3, 4, BIG, -1, -3, "1", [1], (1,), {1: 1}, Box(), BOOK, row(), Rule(), nested(20), b""])
WORD = ("newest", BadRule, other_kinds() + [
    None, 0, 1, "Newest", "newest ", "new", "newest oldest", ["newest"], ("newest",), {"newest": 1}, b"newest", Box(),
    BOOK, row(), Rule(["newest"]), nested(20)])
WORDS = (["newest", "cheapest"], BadRule, plain_kinds() + [
    None, 0, "newest", {"newest": 1}, ["newest", "newest"], ["new"], [None], (True,), [["newest"]], [[], {}], (None, None),
    [nested(19)], ["newest", Rule(["newest"])], Box(), BOOK, row(), Rule(["newest"])])
NAME = ("ann", BadSale, [thing for thing in other_kinds() if thing != ""] + [
    None, 0, "Ann", "abcdefghi", "*", " ", ["ann"], ("ann",), Box("ann"), BOOK, row(), Rule(), nested(20), b"ann"])
A_LOG = (Log([(2, ("put", row(5)))]), BadLog, other_kinds() + [
    None, 0, "log", [(2, ("put", row(5)))], ((2, ("put", row(5))),), Box(), BOOK, row(), Rule(), nested(20), b""])
DAY = (3, BadDay, [thing for thing in other_kinds() if thing != 10 ** 5000] + [
    None, -BIG, "3", [3], (3,), (3, None), {3: 3}, Box(), BOOK, row(), Rule(), Log(), nested(20), b"3"])
SOLD = ([(("ann", "tea", 35, 2), 3)], BadSales, plain_kinds() + [
    None, 0, "sold", {0: (("ann", "tea", 35, 2), 3)}, Box(), BOOK, row(), Rule(), Log(), b""])
RECEIPTS = ([(("ann", "tea", 35, 2), 8)], BadReceipts, SOLD[2])
A_ROW = (row(7, days=(30, 36)), BadRow, other_kinds() + [
    None, 0, "row", [row()], (row(),), (Box(), 7, 0), BOOK, Box(), Rule(), Log(), nested(20), b""])

# A text that is that of a rule, of a book and of a log, and values that no reader takes.
TEXT = ("", BadText, [thing for thing in other_kinds() if thing != ""] + [
    None, 0, " ", "\n", "x", "A", "0", "ann tea 35", "* * 0- 0- 5 10", "newest newest", "newest\n", ["newest"], ("newest",),
    Box(), BOOK, row(), Rule(), Log(), nested(20), b""])
ROW_TEXT, SALE_TEXT = ("* * 0- 0- 5 0", BadText, TEXT[2]), ("ann tea 35 2", BadText, TEXT[2])

# The attributes of errors that do not hang on the wrong value.
ATTRIBUTES = {
    BadLog: ("at", None), BadSales: ("at", None), BadReceipts: ("at", None), BadRow: ("part", "row"), BadText: ("line", 0),
}


class ArgumentChecks:
    """Checks of the functions of a list of pairs (function, kinds of its parameters), for a TestCase that has them."""

    def assert_raises(self, function, passed, kinds, name):
        """The error is the one of this parameter, with its value if it has one."""
        with self.assertRaises(PriceError, msg=(function, name)) as caught:
            function(**passed)
        self.assertEqual(caught.exception.__class__, kinds[name][1], (function, name))
        if kinds[name][1] == NoRow:
            self.assertEqual(caught.exception.at, passed[name])
            self.assertEqual(caught.exception.at.__class__, passed[name].__class__)
        if kinds[name][1] in ATTRIBUTES:
            attribute, expected = ATTRIBUTES[kinds[name][1]]
            self.assertEqual(getattr(caught.exception, attribute), expected, (function, name))
        with self.assertRaises(kinds[name][1]):
            function(*passed.values())

    def test_each_parameter_wrong_by_itself(self):
        for function, kinds in self.functions:
            for name, (good, error, wrongs) in kinds.items():
                for wrong in wrongs:
                    passed = {each: kinds[each][0] for each in kinds}
                    passed[name] = wrong
                    self.assert_raises(function, passed, kinds, name)

    def test_several_wrong_at_once(self):
        for function, kinds in self.functions:
            for many in range(2, len(kinds) + 1):
                for names in itertools.combinations(kinds, many):
                    for shift in range(8):
                        passed = {each: kinds[each][0] for each in kinds}
                        for at, name in enumerate(names):
                            passed[name] = kinds[name][2][shift + at]
                        self.assert_raises(function, passed, kinds, names[0])

    def test_one_wrong_value_in_all_places(self):
        for function, kinds in self.functions:
            for wrong in [None, True, -1, {}, b"", nested(20)]:
                passed = {each: wrong for each in kinds}
                self.assert_raises(function, passed, kinds, list(kinds)[0])

    def test_by_position_by_name_and_in_any_order_of_names(self):
        for function, kinds in self.functions:
            passed = {each: kinds[each][0] for each in kinds}
            result = function(*passed.values())
            self.assertEqual(function(**passed), result, function)
            self.assertEqual(function(**dict(list(passed.items())[::-1])), result, function)
            self.assertEqual(function(list(passed.values())[0], **dict(list(passed.items())[1:])), result, function)
