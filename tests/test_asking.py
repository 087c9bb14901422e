"""Which rows apply to a sale, which one counts by pairs and by rounds, and what is told."""

import itertools
import unittest

from rowsmeet.asking import by_pairs, by_rounds, rounds, rows_at, told, unbeaten
from rowsmeet.books import Book, Row
from rowsmeet.boxes import Box
from rowsmeet.rules import Rule
from tests.plain import WORDS, Plain, end_sales, lists_of_words, some_cases
from tests.values import BIG, book, row

SALE = ("ann", "tea", 35, 2)
WEEK, ANN, SUMMER = row(7, days=(30, 36)), row(8, who="ann", days=(33, None)), row(10, days=(0, 90))
RING, RING_RULE = Book([WEEK, ANN, SUMMER]), Rule(["narrowest", "newest"])


def all_answers(rule, some_book, sale):
    """What each function says: rows_at, by_pairs, by_rounds, rounds, told, unbeaten."""
    return (rows_at(some_book, sale), by_pairs(rule, some_book, sale), by_rounds(rule, some_book, sale),
            rounds(rule, some_book, sale), told(rule, some_book, sale), unbeaten(rule, some_book, sale))


class NoRow(unittest.TestCase):
    def test_a_book_without_rows(self):
        for words in [[], ["newest"], WORDS]:
            self.assertEqual(all_answers(Rule(words), Book(), SALE),
                             ([], None, (), [()] * (len(words) + 1), "none", []))

    def test_a_sale_in_no_box(self):
        some_book = Book([row(0, who="bob"), row(0, what="coffee"), row(0, days=(0, 34)), row(0, days=(36, None)),
                          row(0, amounts=(0, 1)), row(0, amounts=(3, 3))])
        for words in [[], ["newest"], WORDS]:
            self.assertEqual(all_answers(Rule(words), some_book, SALE),
                             ([], None, (), [()] * (len(words) + 1), "none", []))


class OneRow(unittest.TestCase):
    def test_a_book_of_one_row(self):
        for words in [[], ["newest"], WORDS]:
            self.assertEqual(all_answers(Rule(words), book(5), SALE),
                             ([0], 0, (0,), [(0,)] * (len(words) + 1), 5, [0]))

    def test_only_one_row_applies(self):
        some_book = Book([row(3, who="bob"), row(4, what="tea"), row(5, days=(36, 40))])
        for words in [[], ["cheapest"], WORDS]:
            self.assertEqual(all_answers(Rule(words), some_book, SALE),
                             ([1], 1, (1,), [(1,)] * (len(words) + 1), 4, [1]))

    def test_prices_from_0_on(self):
        for price in [0, 1, BIG]:
            self.assertEqual(told(Rule(), book(price), SALE), price)
            self.assertEqual(told(Rule(), book(price), SALE).__class__, int)


class SixRows(unittest.TestCase):
    def setUp(self):
        self.book = Book([row(5, 1), row(4, 1, who="ann"), row(4, 2, what="tea"), row(6, 2, days=(30, 40)),
                          row(9, 0, who="ann", what="tea", days=(35, 35), amounts=(2, 2)), row(1, 9, who="bob")])

    def test_one_word(self):
        expected = {
            "narrowest": (4, (4,), 9), "widest": (0, (0,), 5), "newest": (4, (4,), 9), "oldest": (0, (0,), 5),
            "cheapest": (None, (1, 2), 4), "dearest": (4, (4,), 9), "highest": (None, (2, 3), "open"),
            "lowest": (4, (4,), 9),
        }
        for word, (pair_row, left, price) in expected.items():
            self.assertEqual(all_answers(Rule([word]), self.book, SALE)[1:5],
                             (pair_row, left, [(0, 1, 2, 3, 4), left], price), word)
        self.assertEqual(rows_at(self.book, SALE), [0, 1, 2, 3, 4])

    def test_several_words(self):
        rule = Rule(["highest", "narrowest", "cheapest"])
        self.assertEqual(all_answers(rule, self.book, SALE),
                         ([0, 1, 2, 3, 4], 2, (2,), [(0, 1, 2, 3, 4), (2, 3), (2, 3), (2,)], 4, [2]))
        rule = Rule(["cheapest", "dearest", "lowest"])
        self.assertEqual(all_answers(rule, self.book, SALE),
                         ([0, 1, 2, 3, 4], 1, (1,), [(0, 1, 2, 3, 4), (1, 2), (1, 2), (1,)], 4, [1]))

    def test_six_rows_that_all_apply(self):
        six = book(6, 2, 3, 2, 5, 2)
        self.assertEqual(all_answers(Rule(["cheapest", "newest"]), six, SALE),
                         ([0, 1, 2, 3, 4, 5], 5, (5,), [(0, 1, 2, 3, 4, 5), (1, 3, 5), (5,)], 2, [5]))
        self.assertEqual(all_answers(Rule(["cheapest"]), six, SALE),
                         ([0, 1, 2, 3, 4, 5], None, (1, 3, 5), [(0, 1, 2, 3, 4, 5), (1, 3, 5)], 2, [1, 3, 5]))


class Alike(unittest.TestCase):
    def test_equal_rows(self):
        some_book = Book([row(5)] * 3)
        for words in [[], ["narrowest"], ["cheapest", "highest", "widest"]]:
            self.assertEqual(all_answers(Rule(words), some_book, SALE),
                             ([0, 1, 2], None, (0, 1, 2), [(0, 1, 2)] * (len(words) + 1), 5, [0, 1, 2]))
        self.assertEqual(all_answers(Rule(["highest", "newest"]), some_book, SALE),
                         ([0, 1, 2], 2, (2,), [(0, 1, 2), (0, 1, 2), (2,)], 5, [2]))
        self.assertEqual(by_pairs(Rule(["oldest"]), some_book, SALE), 0)

    def test_rules_without_words(self):
        self.assertEqual(all_answers(Rule(), book(5, 5), SALE), ([0, 1], None, (0, 1), [(0, 1)], 5, [0, 1]))
        self.assertEqual(all_answers(Rule(), book(5, 6), SALE), ([0, 1], None, (0, 1), [(0, 1)], "open", [0, 1]))

    def test_rows_of_one_price_and_of_several(self):
        for prices, expected in [((0, 0), 0), ((0, 1), "open"), ((7, 7, 7), 7), ((7, 7, 8), "open"), ((3,), 3), ((), "none")]:
            self.assertEqual(told(Rule(["highest"]), book(*prices), SALE), expected)


class Rings(unittest.TestCase):
    def test_the_ring_of_the_document(self):
        self.assertEqual(all_answers(RING_RULE, RING, SALE),
                         ([0, 1, 2], None, (1,), [(0, 1, 2), (0, 1), (1,)], 8, []))

    def test_a_sale_of_two_rows_of_the_ring(self):
        self.assertEqual(all_answers(RING_RULE, RING, ("bob", "tea", 35, 2)), ([0, 2], 0, (0,), [(0, 2), (0,), (0,)], 7, [0]))
        self.assertEqual(by_pairs(RING_RULE, RING, ("ann", "tea", 37, 2)), 2)

    def test_a_row_that_beats_the_ring(self):
        some_book = Book([WEEK, ANN, SUMMER, row(4, who="ann", days=(33, 36))])
        self.assertEqual(all_answers(RING_RULE, some_book, SALE)[1:], (3, (3,), [(0, 1, 2, 3), (3,), (3,)], 4, [3]))

    def test_a_row_that_the_ring_beats(self):
        some_book = Book([row(4), WEEK, ANN, SUMMER])
        self.assertEqual(all_answers(RING_RULE, some_book, SALE)[1:], (None, (2,), [(0, 1, 2, 3), (1, 2), (2,)], 8, []))

    def test_one_unbeaten_row_that_does_not_beat_all(self):
        some_book = Book([row(5, days=(30, 40)), row(6, amounts=(0, 5)), row(7)])
        rule = Rule(["narrowest"])
        self.assertEqual(all_answers(rule, some_book, SALE), ([0, 1, 2], None, (0, 1), [(0, 1, 2), (0, 1)], "open", [0, 1]))

    def test_a_row_goes_though_what_put_it_behind_goes_in_the_same_round(self):
        some_book = Book([row(5), row(6, days=(0, 40)), row(7, days=(30, 40))])
        self.assertEqual(rounds(Rule(["narrowest", "cheapest"]), some_book, SALE), [(0, 1, 2), (2,), (2,)])

    def test_a_row_that_is_gone_puts_none_out(self):
        some_book = Book([row(5, 1), row(1, 0), row(6, 1)])
        self.assertEqual(rounds(Rule(["highest", "cheapest"]), some_book, SALE), [(0, 1, 2), (0, 2), (0,)])


class Many(unittest.TestCase):
    def test_all_sales_at_the_ends_of_boxes(self):
        for words, some_book in some_cases(150, 2):
            plain, rule = Plain(words, some_book), Rule(words)
            for sale in end_sales([each.box for each in some_book])[::5]:
                lot = plain.rows_at(sale)
                left = plain.rounds_of(lot)
                self.assertEqual(all_answers(rule, some_book, sale), (
                    lot, plain.by_pairs_of(lot), left[-1], left, plain.told_of(lot), plain.unbeaten_of(lot)))

    def test_a_row_by_pairs_is_the_only_one_left_by_rounds(self):
        boxes = [Box(days=(0, 1)), Box(), Box(amounts=(0, 1))]
        kinds = [Row(*sides) for sides in itertools.product(boxes, [1, 2], [1, 2])]
        books = [Book(some) for some in itertools.product(kinds, kinds[::3], kinds[::4])]
        found = 0
        for at, words in enumerate(lists_of_words(3)):
            rule = Rule(words)
            for some_book in books[at % 4::4]:
                best = by_pairs(rule, some_book, ("a", "a", 0, 0))
                if best is not None:
                    found += 1
                    self.assertEqual(by_rounds(rule, some_book, ("a", "a", 0, 0)), (best,))
                    self.assertEqual(told(rule, some_book, ("a", "a", 0, 0)), some_book[best].price)
        self.assertGreater(found, 1000)


class Results(unittest.TestCase):
    def test_lists_are_new_each_time(self):
        for ask in [lambda: rows_at(RING, SALE), lambda: rounds(RING_RULE, RING, SALE),
                    lambda: unbeaten(Rule(), RING, SALE)]:
            first = ask()
            kept = list(first)
            first.append(5)
            first[0] = 9
            self.assertEqual(ask(), kept)

    def test_kinds_of_results(self):
        kinds = [each.__class__ for each in all_answers(RING_RULE, RING, ("bob", "tea", 35, 2))]
        self.assertEqual(kinds, [list, int, tuple, list, int, list])
        self.assertEqual({each.__class__ for each in rounds(RING_RULE, RING, SALE)}, {tuple})

    def test_nothing_is_changed(self):
        copy_of_book, copy_of_rule = Book(RING.rows), Rule(RING_RULE.words)
        all_answers(RING_RULE, RING, SALE)
        self.assertEqual((RING, RING_RULE), (copy_of_book, copy_of_rule))


if __name__ == "__main__":
    unittest.main()
