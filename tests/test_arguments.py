"""Each function of rules, asking, firmness and orders with wrong arguments, and by the names of its parameters."""

import unittest

from rowsmeet import asking, firmness, orders, rules
from rowsmeet.books import Book, Row
from rowsmeet.boxes import Box
from rowsmeet.errors import BadRule, BadSale, NoRow, TooMany
from rowsmeet.rules import Rule
from tests.argument_checks import A_BOOK, BOOK, INDEX, RULE, SALE, WORD, WORDS, ArgumentChecks
from tests.test_interface import PLACES
from tests.values import BIG, book, row

FUNCTIONS = [
    (Rule, {"words": WORDS}),
    (rules.ahead, {"word": WORD, "book": A_BOOK, "one": INDEX, "other": INDEX}),
    (rules.parts, {"rule": RULE, "book": A_BOOK, "one": INDEX, "other": INDEX}),
    (rules.beats, {"rule": RULE, "book": A_BOOK, "one": INDEX, "other": INDEX}),
    (asking.rows_at, {"book": A_BOOK, "sale": SALE}),
    (asking.by_pairs, {"rule": RULE, "book": A_BOOK, "sale": SALE}),
    (asking.by_rounds, {"rule": RULE, "book": A_BOOK, "sale": SALE}),
    (asking.rounds, {"rule": RULE, "book": A_BOOK, "sale": SALE}),
    (asking.told, {"rule": RULE, "book": A_BOOK, "sale": SALE}),
    (asking.unbeaten, {"rule": RULE, "book": A_BOOK, "sale": SALE}),
    (firmness.unparted, {"rule": RULE, "book": A_BOOK}),
    (firmness.rings, {"rule": RULE, "book": A_BOOK}),
    (firmness.is_firm, {"rule": RULE, "book": A_BOOK}),
    (firmness.shaky, {"rule": RULE, "book": A_BOOK}),
    (firmness.is_whole, {"rule": RULE, "book": A_BOOK}),
    (firmness.unwhole_sale, {"rule": RULE, "book": A_BOOK}),
    (firmness.least_taken, {"rule": RULE, "book": A_BOOK}),
    (orders.is_always_firm, {"rule": RULE}),
    (orders.shaky_book, {"rule": RULE}),
    (orders.choose_alike, {"rule": RULE}),
    (orders.unlike_choice, {"rule": RULE}),
    (orders.are_alike, {"one": RULE, "other": RULE}),
    (orders.parting, {"one": RULE, "other": RULE}),
    (orders.firm_orders, {"words": WORDS}),
]


class Arguments(ArgumentChecks, unittest.TestCase):
    functions = FUNCTIONS

    def test_each_function_is_here(self):
        listed = [(module.__name__, name) for module in [rules, asking, firmness, orders] for name in PLACES[module]]
        self.assertEqual(listed, [(function.__module__, function.__name__) for function, kinds in FUNCTIONS])

    def test_an_index_of_a_row_that_is_not_there(self):
        for many in range(7):
            some_book = Book([row(1)] * many)
            for at in [many, many + 1, -1]:
                for function in [rules.parts, rules.beats]:
                    for one, other, named in [(at, 0, at), (0, at, at if many else 0), (at, at + 9, at)]:
                        with self.assertRaises(NoRow) as caught:
                            function(Rule(["newest"]), some_book, one, other)
                        self.assertEqual(caught.exception.at, named)

    def test_the_error_keeps_a_copy_of_the_index(self):
        wrong = [1, [2]]
        for function, first in [(rules.ahead, "newest"), (rules.parts, Rule()), (rules.beats, Rule())]:
            with self.assertRaises(NoRow) as caught:
                function(first, BOOK, 0, wrong)
            caught.exception.at[1].append(3)
            self.assertEqual(wrong, [1, [2]])

    def test_a_wrong_call_changes_nothing(self):
        copy_of_book, rule = Book(BOOK.rows), Rule(["newest"])
        for wrong in [None, 7, []]:
            self.assertRaises(NoRow, rules.beats, rule, BOOK, 0, wrong)
            self.assertRaises(BadSale, asking.told, rule, BOOK, wrong)
        self.assertEqual((BOOK, rule), (copy_of_book, Rule(["newest"])))

    def test_too_many_words_come_behind_bad_ones(self):
        six = ["narrowest", "widest", "newest", "oldest", "cheapest", "dearest"]
        self.assertRaises(TooMany, orders.firm_orders, six)
        self.assertRaises(BadRule, orders.firm_orders, six + ["newest"])
        self.assertRaises(BadRule, orders.firm_orders, six + [None])

    def test_numbers_at_and_beyond_the_limit(self):
        for number in [BIG, BIG + 1, 10 ** 13]:
            rule = Rule(["narrowest", "cheapest", "newest"])
            some_book = Book([row(number), row(number - 1, days=(number, None)), row(number + 1, amounts=(0, number))])
            self.assertEqual(asking.told(rule, some_book, ("a", "a", number, number + 1)), number - 1)
            self.assertEqual(asking.told(rule, some_book, ("a", "a", number - 1, number)), number + 1)
            self.assertIs(firmness.is_firm(rule, some_book), True)


class Books(unittest.TestCase):
    def test_a_book_of_six_rows_of_each_function(self):
        six = Book([Row(Box(), 5)] * 6)
        for function, kinds in FUNCTIONS:
            if "book" in kinds:
                passed = {each: kinds[each][0] for each in kinds}
                passed["book"] = six
                self.assertEqual(function(**passed), function(**passed))
        self.assertEqual(asking.rows_at(book(1, 2, 3, 4, 5, 6), SALE[0]), list(range(6)))


if __name__ == "__main__":
    unittest.main()
