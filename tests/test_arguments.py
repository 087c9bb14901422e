"""Each function of rules, asking, firmness and orders with wrong arguments, and by the names of its parameters."""

import itertools
import unittest

from rowsmeet import asking, firmness, orders, rules
from rowsmeet.books import Book, Row
from rowsmeet.boxes import Box
from rowsmeet.errors import BadBook, BadRule, BadSale, NoRow, PriceError, TooMany
from rowsmeet.rules import Rule
from tests.test_interface import PLACES
from tests.values import BIG, book, nested, other_kinds, plain_kinds, row

BOOK = Book([row(7, days=(30, 36)), row(8, who="ann", days=(33, None)), row(10, days=(0, 90))])

# For each kind of parameter: a good value, the error, and wrong values.
RULE = (Rule(["narrowest", "newest"]), BadRule, other_kinds() + [
    None, 0, "newest", ["newest"], ("newest",), Box(), BOOK, row(), nested(20), b""])
A_BOOK = (BOOK, BadBook, other_kinds() + [
    None, 0, "book", [row()], (row(),), list(BOOK), BOOK.rows, row(), Box(), Rule(), nested(20), b""])
SALE = (("ann", "tea", 35, 2), BadSale, other_kinds() + [
    None, 0, "anna", ["ann", "tea", 35, 2], ("ann", "tea", 35), ("ann", "tea", 35, 2, 1), ("Ann", "tea", 35, 2),
    ("", "tea", 35, 2), ("abcdefghi", "tea", 35, 2), (None, "tea", 35, 2), ("ann", None, 35, 2), ("ann", "t-a", 35, 2),
    ("ann", "tea", -1, 2), ("ann", "tea", 35, -1), ("ann", "tea", True, 2), ("ann", "tea", 35, False),
    ("ann", "tea", None, 2), ("ann", "tea", (35, 36), 2), ("ann", "tea", "35", 2), ("ann", ["tea"], 35, 2),
    Box("ann"), BOOK, row(), Rule(), nested(20), b""])
INDEX = (1, NoRow, other_kinds() + [
    None, 3, 4, BIG, -1, -3, "1", [1], (1,), {1: 1}, Box(), BOOK, row(), Rule(), nested(20), b""])
WORD = ("newest", BadRule, other_kinds() + [
    None, 0, 1, "Newest", "newest ", "new", "newest oldest", ["newest"], ("newest",), {"newest": 1}, b"newest", Box(),
    BOOK, row(), Rule(["newest"]), nested(20)])
WORDS = (["newest", "cheapest"], BadRule, plain_kinds() + [
    None, 0, "newest", {"newest": 1}, ["newest", "newest"], ["new"], [None], (True,), [["newest"]], [[], {}], (None, None),
    [nested(19)], ["newest", Rule(["newest"])], Box(), BOOK, row(), Rule(["newest"])])

FUNCTIONS = [
    (Rule, {"words": WORDS}),
    (rules.ahead, {"word": WORD, "book": A_BOOK, "one": INDEX, "other": INDEX}),
    (rules.parts, {"rule": RULE, "book": A_BOOK, "one": INDEX, "other": INDEX}),
    (rules.beats, {"rule": RULE, "book": A_BOOK, "one": INDEX, "other": INDEX}),
    (asking.rows_at, {"book": A_BOOK, "sale": SALE}),
    (asking.by_pairs, {"rule": RULE, "book": A_BOOK, "sale": SALE}),
    (asking.by_rounds, {"rule": RULE, "book": A_BOOK, "sale": SALE}),
    (asking.rounds, {"rule": RULE, "book": A_BOOK, "sale": SALE}),
    (asking.told, {"rule": RULE, "book": A_BOOK, "sale": SALE}),
    (asking.unbeaten, {"rule": RULE, "book": A_BOOK, "sale": SALE}),
    (firmness.unparted, {"rule": RULE, "book": A_BOOK}),
    (firmness.rings, {"rule": RULE, "book": A_BOOK}),
    (firmness.is_firm, {"rule": RULE, "book": A_BOOK}),
    (firmness.shaky, {"rule": RULE, "book": A_BOOK}),
    (firmness.is_whole, {"rule": RULE, "book": A_BOOK}),
    (firmness.unwhole_sale, {"rule": RULE, "book": A_BOOK}),
    (firmness.least_taken, {"rule": RULE, "book": A_BOOK}),
    (orders.is_always_firm, {"rule": RULE}),
    (orders.shaky_book, {"rule": RULE}),
    (orders.choose_alike, {"rule": RULE}),
    (orders.unlike_choice, {"rule": RULE}),
    (orders.are_alike, {"one": RULE, "other": RULE}),
    (orders.parting, {"one": RULE, "other": RULE}),
    (orders.firm_orders, {"words": WORDS}),
]


class Arguments(unittest.TestCase):
    def assert_raises(self, function, passed, kinds, name):
        """The error is the one of this parameter, with its value if it has one."""
        with self.assertRaises(PriceError, msg=(function, name)) as caught:
            function(**passed)
        self.assertEqual(caught.exception.__class__, kinds[name][1], (function, name))
        if kinds[name][1] == NoRow:
            self.assertEqual(caught.exception.at, passed[name])
            self.assertEqual(caught.exception.at.__class__, passed[name].__class__)
        with self.assertRaises(kinds[name][1]):
            function(*passed.values())

    def test_each_function_is_here(self):
        listed = [(module.__name__, name) for module in [rules, asking, firmness, orders] for name in PLACES[module]]
        self.assertEqual(listed, [(function.__module__, function.__name__) for function, kinds in FUNCTIONS])

    def test_each_parameter_wrong_by_itself(self):
        for function, kinds in FUNCTIONS:
            for name, (good, error, wrongs) in kinds.items():
                for wrong in wrongs:
                    passed = {each: kinds[each][0] for each in kinds}
                    passed[name] = wrong
                    self.assert_raises(function, passed, kinds, name)

    def test_several_wrong_at_once(self):
        for function, kinds in FUNCTIONS:
            for many in range(2, len(kinds) + 1):
                for names in itertools.combinations(kinds, many):
                    for shift in range(8):
                        passed = {each: kinds[each][0] for each in kinds}
                        for at, name in enumerate(names):
                            passed[name] = kinds[name][2][shift + at]
                        self.assert_raises(function, passed, kinds, names[0])

    def test_one_wrong_value_in_all_places(self):
        for function, kinds in FUNCTIONS:
            for wrong in [None, True, -1, {}, b"", nested(20)]:
                passed = {each: wrong for each in kinds}
                self.assert_raises(function, passed, kinds, list(kinds)[0])

    def test_by_position_by_name_and_in_any_order_of_names(self):
        for function, kinds in FUNCTIONS:
            passed = {each: kinds[each][0] for each in kinds}
            result = function(*passed.values())
            self.assertEqual(function(**passed), result, function)
            self.assertEqual(function(**dict(list(passed.items())[::-1])), result, function)
            self.assertEqual(function(list(passed.values())[0], **dict(list(passed.items())[1:])), result, function)

    def test_an_index_of_a_row_that_is_not_there(self):
        for many in range(7):
            some_book = Book([row(1)] * many)
            for at in [many, many + 1, -1]:
                for function in [rules.parts, rules.beats]:
                    for one, other, named in [(at, 0, at), (0, at, at if many else 0), (at, at + 9, at)]:
                        with self.assertRaises(NoRow) as caught:
                            function(Rule(["newest"]), some_book, one, other)
                        self.assertEqual(caught.exception.at, named)

    def test_the_error_keeps_a_copy_of_the_index(self):
        wrong = [1, [2]]
        for function, first in [(rules.ahead, "newest"), (rules.parts, Rule()), (rules.beats, Rule())]:
            with self.assertRaises(NoRow) as caught:
                function(first, BOOK, 0, wrong)
            caught.exception.at[1].append(3)
            self.assertEqual(wrong, [1, [2]])

    def test_a_wrong_call_changes_nothing(self):
        copy_of_book, rule = Book(BOOK.rows), Rule(["newest"])
        for wrong in [None, 7, []]:
            self.assertRaises(NoRow, rules.beats, rule, BOOK, 0, wrong)
            self.assertRaises(BadSale, asking.told, rule, BOOK, wrong)
        self.assertEqual((BOOK, rule), (copy_of_book, Rule(["newest"])))

    def test_too_many_words_come_behind_bad_ones(self):
        six = ["narrowest", "widest", "newest", "oldest", "cheapest", "dearest"]
        self.assertRaises(TooMany, orders.firm_orders, six)
        self.assertRaises(BadRule, orders.firm_orders, six + ["newest"])
        self.assertRaises(BadRule, orders.firm_orders, six + [None])

    def test_numbers_at_and_beyond_the_limit(self):
        for number in [BIG, BIG + 1, 10 ** 13]:
            rule = Rule(["narrowest", "cheapest", "newest"])
            some_book = Book([row(number), row(number - 1, days=(number, None)), row(number + 1, amounts=(0, number))])
            self.assertEqual(asking.told(rule, some_book, ("a", "a", number, number + 1)), number - 1)
            self.assertEqual(asking.told(rule, some_book, ("a", "a", number - 1, number)), number + 1)
            self.assertIs(firmness.is_firm(rule, some_book), True)


class Books(unittest.TestCase):
    def test_a_book_of_six_rows_of_each_function(self):
        six = Book([Row(Box(), 5)] * 6)
        for function, kinds in FUNCTIONS:
            if "book" in kinds:
                passed = {each: kinds[each][0] for each in kinds}
                passed["book"] = six
                self.assertEqual(function(**passed), function(**passed))
        self.assertEqual(asking.rows_at(book(1, 2, 3, 4, 5, 6), SALE[0]), list(range(6)))


if __name__ == "__main__":
    unittest.main()
