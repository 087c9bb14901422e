"""Rows that count for a sale, rows that never count, and the least lots that tell as much as the book."""

import itertools
import unittest

from rowsmeet.asking import by_pairs, by_rounds
from rowsmeet.books import Book, Row
from rowsmeet.boxes import Box, is_sale
from rowsmeet.errors import NoRow
from rowsmeet.forms import tell_alike
from rowsmeet.matter import dead_rows, least_lots, left_at, wins_at
from rowsmeet.rules import Rule
from tests.plain import Plain, ring_cases, some_cases
from tests.values import BIG, book, row

WEEK, ANN, SUMMER = row(7, days=(30, 36)), row(8, who="ann", days=(33, None)), row(10, days=(0, 90))
RING, RING_RULE = Book([WEEK, ANN, SUMMER]), Rule(["narrowest", "newest"])

# Behind the ring a row that beats all three of it where they meet.
COVERED = RING.with_row(row(5, 1, who="ann", days=(33, 36)))


def winners(rule, some_book):
    """The rows that are the row by pairs of some sale, each found to be that of the sale that is told."""
    found = []
    for at in range(len(some_book)):
        sale = wins_at(rule, some_book, at)
        if sale is not None:
            assert is_sale(sale) and by_pairs(rule, some_book, sale) == at
            found.append(at)
    return found


def left_rows(rule, some_book):
    """The rows that are left by rounds of some sale, each found to be left of the sale that is told."""
    found = []
    for at in range(len(some_book)):
        sale = left_at(rule, some_book, at)
        if sale is not None:
            assert is_sale(sale) and at in by_rounds(rule, some_book, sale)
            found.append(at)
    return found


def all_findings(rule, some_book):
    """Which rows win, which are left, which are dead, and the least lots."""
    return (winners(rule, some_book), left_rows(rule, some_book), dead_rows(rule, some_book), least_lots(rule, some_book))


class Rows(unittest.TestCase):
    def test_no_row_and_one(self):
        for words in [[], ["newest"], ["cheapest", "widest"]]:
            self.assertEqual(all_findings(Rule(words), Book()), ([], [], [], [()]))
            self.assertEqual(all_findings(Rule(words), book(5)), ([0], [0], [], [(0,)]))
            small = Book([row(0, who="ann", what="tea", days=(BIG, BIG), amounts=(3, 3))])
            self.assertEqual(all_findings(Rule(words), small), ([0], [0], [], [(0,)]))

    def test_rows_that_are_hidden_by_others(self):
        self.assertEqual(all_findings(Rule(["newest"]), book(5, 6, 7)), ([2], [2], [0, 1], [(2,)]))
        self.assertEqual(all_findings(Rule(["oldest"]), book(5, 6, 7)), ([0], [0], [1, 2], [(0,)]))
        self.assertEqual(all_findings(Rule(["cheapest"]), book(6, 5, 7)), ([1], [1], [0, 2], [(1,)]))
        # Two rows together hide a third one.
        halves = Book([row(9, days=(5, 14)), row(5, days=(0, 9)), row(6, days=(10, None))])
        self.assertEqual(all_findings(Rule(["newest"]), halves), ([1, 2], [1, 2], [0], [(1, 2)]))
        self.assertEqual(all_findings(Rule(["oldest"]), halves), ([0, 1, 2], [0, 1, 2], [], [(0, 1, 2)]))

    def test_a_row_that_counts_for_one_sale_only(self):
        some_book = Book([row(5, days=(0, 9), amounts=(0, 9)), row(6, days=(0, 8)), row(7, amounts=(1, 9)),
                          row(8, amounts=(0, 0), who="ann"), row(9, amounts=(0, 0), what="tea")])
        self.assertEqual(all_findings(Rule(["newest"]), some_book), (
            [0, 1, 2, 3, 4], [0, 1, 2, 3, 4], [], [(0, 1, 2, 3, 4)]))
        sale = wins_at(Rule(["newest"]), some_book, 0)
        self.assertEqual(sale[2:], (9, 0))
        self.assertTrue(sale[0] != "ann" and sale[1] != "tea")

    def test_equal_rows(self):
        self.assertEqual(all_findings(Rule(), book(5, 5, 5)), ([], [0, 1, 2], [], [(0,), (1,), (2,)]))
        self.assertEqual(all_findings(Rule(["newest"]), book(5, 5)), ([1], [1], [0], [(0,), (1,)]))
        self.assertEqual(all_findings(Rule(["oldest", "cheapest"]), book(5, 5)), ([0], [0], [1], [(0,), (1,)]))
        self.assertEqual(all_findings(Rule(["cheapest"]), book(5, 5, 6)), ([], [0, 1], [2], [(0,), (1,)]))

    def test_rows_that_are_left_and_never_win(self):
        self.assertEqual(all_findings(Rule(), book(5, 6)), ([], [0, 1], [], [(0, 1)]))
        self.assertEqual(all_findings(Rule(), book(5, 6, 7)), ([], [0, 1, 2], [], [(0, 1), (0, 2), (1, 2)]))
        self.assertEqual(all_findings(Rule(), book(5, 6, 5, 6)), (
            [], [0, 1, 2, 3], [], [(0, 1), (0, 3), (1, 2), (2, 3)]))

    def test_a_ring(self):
        self.assertEqual(all_findings(RING_RULE, RING), ([0, 1, 2], [0, 1, 2], [], [(0, 1, 2)]))
        self.assertEqual(all_findings(RING_RULE, COVERED), ([0, 1, 2, 3], [0, 1, 2, 3], [], [(0, 1, 2, 3)]))

    def test_a_lot_that_tells_the_same_by_other_rows(self):
        # The last row says again what the first two say together.
        some_book = Book([row(5, days=(0, 9)), row(5, days=(10, None)), row(5)])
        self.assertEqual(all_findings(Rule(["newest"]), some_book), ([2], [2], [0, 1], [(2,), (0, 1)]))
        self.assertEqual(least_lots(Rule(["oldest"]), some_book), [(2,), (0, 1)])
        self.assertEqual(least_lots(Rule(), some_book), [(2,), (0, 1)])

    def test_least_lots_are_ordered_by_length_first(self):
        some_book = Book([row(5, days=(0, 4)), row(5, days=(5, 9)), row(5, days=(10, None)), row(5), row(5, days=(0, 9))])
        self.assertEqual(least_lots(Rule(), some_book), [(3,), (2, 4), (0, 1, 2)])

    def test_a_dead_row_may_be_in_a_least_lot(self):
        self.assertEqual(dead_rows(Rule(["newest"]), book(5, 5)), [0])
        self.assertEqual(least_lots(Rule(["newest"]), book(5, 5)), [(0,), (1,)])

    def test_a_lot_within_a_lot_that_tells_otherwise(self):
        # Without the last row the second one counts; without both the first one says again what the last one said.
        some_book = book(5, 6, 5)
        self.assertEqual(least_lots(Rule(["newest"]), some_book), [(0,), (2,)])

    def test_indexes_that_are_none(self):
        for function in [wins_at, left_at]:
            for wrong in [-1, 3, True, None, "0", (0,), [0]]:
                with self.assertRaises(NoRow) as caught:
                    function(RING_RULE, RING, wrong)
                self.assertEqual(caught.exception.at, wrong)
            self.assertRaises(NoRow, function, RING_RULE, Book(), 0)


class Many(unittest.TestCase):
    def test_against_all_cells(self):
        for words, some_book in some_cases(200, 31) + ring_cases(40, 31):
            plain, rule = Plain(words, some_book), Rule(words)
            best = {plain.by_pairs_of(lot) for lot in plain.cells}
            left = {at for lot in plain.cells for at in plain.rounds_of(lot)[-1]}
            rows = range(len(some_book))
            self.assertEqual(winners(rule, some_book), [at for at in rows if at in best])
            self.assertEqual(left_rows(rule, some_book), [at for at in rows if at in left])
            self.assertEqual(dead_rows(rule, some_book), [at for at in rows if at not in left])

    def test_least_lots_against_all_lots(self):
        several = 0
        for words, some_book in some_cases(200, 32) + ring_cases(30, 32):
            plain, rule = Plain(words, some_book), Rule(words)
            same = {part for part in plain.lots() if all(
                plain.told_of(tuple(at for at in lot if at in part)) == plain.told_of(lot) for lot in plain.cells)}
            expected = [lot for lot in plain.lots() if lot in same and not any(set(other) < set(lot) for other in same)]
            self.assertEqual(least_lots(rule, some_book), expected)
            several += len(expected) > 1
            for lot in expected:
                self.assertIs(tell_alike(rule, some_book, some_book.some(lot)), True)
        self.assertGreater(several, 20)

    def test_all_small_books_of_a_few_boxes(self):
        boxes = [Box(), Box(days=(0, 0)), Box(amounts=(1, None)), Box(days=(1, None))]
        kinds = [Row(each, price) for each in boxes for price in [1, 2]]
        for number, rows in enumerate(itertools.product(kinds, repeat=3)):
            words = [["newest"], ["narrowest", "oldest"], ["cheapest"], [], ["widest"]][number % 5]
            some_book, rule = Book(rows), Rule(words)
            lots = least_lots(rule, some_book)
            for lot in Plain(words, some_book).lots():
                has_one = any(set(least) <= set(lot) for least in lots)
                if tell_alike(rule, some_book, some_book.some(lot)):
                    self.assertTrue(has_one)
                self.assertFalse(lot in lots and not tell_alike(rule, some_book, some_book.some(lot)))


class Results(unittest.TestCase):
    def test_lists_are_new_each_time(self):
        for function in [dead_rows, least_lots]:
            found = function(Rule(["newest"]), book(5, 6, 7))
            kept = list(found)
            found.append(5)
            found[0] = 9
            self.assertEqual(function(Rule(["newest"]), book(5, 6, 7)), kept)

    def test_equal_arguments_give_equal_results(self):
        for words, some_book in some_cases(40, 33):
            again = Book(list(some_book.rows))
            for at in range(len(some_book)):
                for function in [wins_at, left_at]:
                    self.assertEqual(function(Rule(words), some_book, at), function(Rule(words), again, at))


if __name__ == "__main__":
    unittest.main()
