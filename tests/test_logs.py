"""Logs: which entries can stand, the books known on days, and what is told, turned and due by them."""

import random
import unittest

from rowsmeet.asking import told
from rowsmeet.books import Book
from rowsmeet.boxes import Box
from rowsmeet.errors import BadBook, BadDay, BadLog, BadRule, BadSale, BadSales, TooMany
from rowsmeet.logs import Log, known, refunds, told_on, turns
from rowsmeet.rules import Rule
from tests.plain import end_sales
from tests.plain_logs import can_stand, plain_known, plain_told, some_entry, some_logs
from tests.values import BIG, book, nested, other_kinds, plain_kinds, prices, row

PUT = ("put", row(5))
SALE = ("ann", "tea", 3, 2)

# Two rows, of which the first one ends and the second one goes; then a late one.
ENTRIES = [(2, ("put", row(5))), (4, ("put", row(7, days=(3, 9)))), (4, ("end", 0, 6)), (6, ("take", 1)),
           (9, ("put", row(8, who="ann", days=(2, None))))]
LOG, RULE = Log(ENTRIES), Rule(["newest"])


def puts(many, day=0):
    """So many entries of rows with different prices."""
    return [(day, ("put", row(price))) for price in range(many)]


class Made(unittest.TestCase):
    def assert_bad(self, entries, at):
        with self.assertRaises(BadLog, msg=entries) as caught:
            Log(entries)
        self.assertEqual((caught.exception.at, caught.exception.at.__class__), (at, at.__class__))

    def assert_too_many(self, entries, most):
        with self.assertRaises(TooMany) as caught:
            Log(entries)
        self.assertEqual(caught.exception.most, most)

    def test_the_empty_log(self):
        for log in [Log(), Log([]), Log(()), Log(entries=[])]:
            self.assertEqual((log.entries, len(log), log), ((), 0, Log()))

    def test_a_list_and_a_tuple(self):
        for log in [Log(ENTRIES), Log(tuple(ENTRIES)), Log(entries=ENTRIES)]:
            self.assertEqual((log.entries, len(log)), (tuple(ENTRIES), 5))
            self.assertIs(log.entries.__class__, tuple)

    def test_equal_logs(self):
        self.assertEqual(Log(ENTRIES), Log(list(ENTRIES)))
        for other in [ENTRIES[:4], ENTRIES[:1], [(3, ENTRIES[0][1])] + ENTRIES[1:], []]:
            self.assertNotEqual(Log(ENTRIES), Log(other))
            self.assertFalse(Log(ENTRIES) == Log(other))
        self.assertNotEqual(Log(puts(2)), Log([(0, ("put", row(1))), (0, ("put", row(0)))]))
        for thing in other_kinds() + [None, ENTRIES, tuple(ENTRIES), Book(), Box(), RULE]:
            self.assertFalse(Log(ENTRIES) == thing)
            self.assertFalse(thing == Log())
            self.assertTrue(Log() != thing)

    def test_later_changes_to_a_list_that_was_passed(self):
        passed = list(ENTRIES)
        log = Log(passed)
        passed.append((9, PUT))
        passed[0] = None
        self.assertEqual(log.entries, tuple(ENTRIES))
        self.assertEqual(len(log), 5)

    def test_values_that_are_no_list(self):
        for wrong in plain_kinds() + [None, 0, 5, "put", {0: PUT}, Log(), Book(), row(), RULE, b"", b"x"]:
            self.assert_bad(wrong, None)

    def test_twelve_and_thirteen_entries(self):
        twelve = puts(2) + [(0, ("end", at % 2, 90 - at)) for at in range(10)]
        self.assertEqual(len(Log(twelve)), 12)
        self.assert_too_many(twelve + [(0, ("end", 0, 5))], 12)
        self.assert_too_many(twelve + [(0, ("end", 0, 5)), (0, ("take", 0)), (3, ("take", 1))], 12)
        self.assert_bad(twelve + [(0, ("end", 2, 5))], 12)
        self.assert_bad(twelve + [(0, ("take", 0)), (0, ("take", 0))], 13)
        self.assert_bad(twelve + [(5, ("take", 0)), (4, ("take", 1))], 13)
        self.assert_bad(twelve + [None], 12)

    def test_six_and_seven_puts(self):
        self.assertEqual(len(Log(puts(6))), 6)
        self.assert_too_many(puts(7), 6)
        self.assert_too_many(puts(7) + [(0, ("take", 6))], 6)
        self.assert_too_many(puts(12), 6)
        self.assert_bad(puts(7) + [(0, ("take", 7))], 7)
        self.assert_bad(puts(7) + [(0, ("take", 6)), (0, ("end", 6, 4))], 8)
        self.assert_bad(puts(7) + [(0, ("put", 5))], 7)
        # Rows that are gone count, too.
        gone = puts(6) + [(0, ("take", at)) for at in range(5)]
        self.assertEqual(len(Log(gone)), 11)
        self.assert_too_many(gone + [(0, PUT)], 6)

    def test_too_many_entries_come_ahead_of_too_many_rows(self):
        self.assert_too_many(puts(13), 12)
        self.assert_too_many(puts(20), 12)
        self.assert_bad(puts(20) + [(0, ("take", 20))], 20)
        self.assertEqual(len(puts(7) + [(0, ("take", at)) for at in range(5)]), 12)
        self.assert_too_many(puts(7) + [(0, ("take", at)) for at in range(5)], 6)
        self.assert_too_many(puts(7) + [(0, ("take", at)) for at in range(6)], 12)

    def test_days_of_knowledge_that_fall(self):
        Log([(3, PUT), (3, PUT), (4, PUT)])
        self.assert_bad([(3, PUT), (2, PUT)], 1)
        self.assert_bad([(3, PUT), (3, PUT), (0, ("take", 0))], 2)
        self.assert_bad([(BIG, PUT), (BIG - 1, PUT)], 1)
        self.assert_bad([(3, PUT), (5, PUT), (4, PUT), (None, PUT)], 2)

    def test_numbers_that_were_not_put(self):
        for deed in [("take", 1), ("end", 1, 5), ("take", -1), ("end", -1, 5), ("take", 6), ("end", BIG, 0)]:
            self.assert_bad([(0, PUT), (0, deed)], 1)
            self.assert_bad([(0, deed)], 0)
        self.assert_bad([(0, ("take", 0)), (0, PUT)], 0)
        self.assert_bad([(0, PUT), (0, ("end", 1, 3)), (0, PUT)], 1)

    def test_numbers_that_do_not_stand(self):
        for gone in [("take", 0), ("end", 0, 0), ("end", 0, 3)]:
            ahead = [(0, ("put", row(5, days=(3, 8)))), (1, ("put", row(6))), (1, gone)]
            Log(ahead)
            for deed in [("take", 0), ("end", 0, 5), ("end", 0, 0)]:
                self.assert_bad(ahead + [(1, deed)], 3)
                self.assert_bad(ahead + [(1, ("take", 1)), (7, deed)], 4)
            # Numbers do not move up.
            self.assertEqual(len(Log(ahead + [(1, ("take", 1))])), 4)
            self.assert_bad(ahead + [(1, PUT), (1, ("take", 3))], 4)
            self.assertEqual(known(Log(ahead + [(1, PUT)]), 1)[1], (1, 2))

    def test_ends_that_leave_days_and_ends_that_leave_none(self):
        ahead = [(0, ("put", row(5, days=(3, 8))))]
        for days, left in [([9], (3, 8)), ([8], (3, 7)), ([4], (3, 3)), ([6, 8], (3, 5)), ([BIG], (3, 8)), ([6, 6], (3, 5))]:
            log = Log(ahead + [(0, ("end", 0, day)) for day in days])
            self.assertEqual([each.box.days for each in known(log, 0)[0]], [left])
        for days in [[3], [0], [2], [4, 3], [9, 9, 1]]:
            log = Log(ahead + [(0, ("end", 0, day)) for day in days])
            self.assertEqual(known(log, 0), (Book(), ()))
        endless = Log([(0, PUT), (0, ("end", 0, BIG))])
        self.assertEqual(known(endless, 0)[0][0].box.days, (0, BIG - 1))

    def test_entries_of_every_wrong_kind_at_any_place(self):
        good = [(0, PUT), (0, PUT), (1, ("end", 0, 5)), (2, PUT)]
        wrongs = other_kinds() + [
            None, 1, "put", PUT, [0, PUT], (0,), (0, PUT, 0), (0, None), (None, PUT), (True, PUT), (-1, PUT), ("0", PUT),
            ((0,), PUT), ([0], PUT), (9, list(PUT)), (9, ("put",)), (9, ("put", row(5), 1)), (9, ("put", None)),
            (9, ("put", Box())), (9, ("put", book(5))), (9, ("put", [row(5)])), (9, ("Put", row(5))), (9, ("put ", row(5))),
            (9, (row(5), "put")), (9, ("puts", row(5))), (9, ()), (9, "take"), (9, ("take",)), (9, ("take", 1, 2)),
            (9, ("take", True)), (9, ("take", None)), (9, ("take", "0")), (9, ("take", (0,))), (9, ("take", [0])),
            (9, ("end",)), (9, ("end", 0)), (9, ("end", 0, 5, 6)), (9, ("end", 0, -1)), (9, ("end", 0, None)),
            (9, ("end", 0, True)), (9, ("end", 0, "5")), (9, ("end", 0, (5,))), (9, ("end", False, 5)),
            (9, ("end", None, 5)), (9, ("undo",)), (9, ("undo", 0)), (9, (None, 0)), (9, ([], 0)), (9, (0, 0)),
            (9, (row(5), 0)), (9, (True, 0, 0)), (9, {"put": 5}), Log(), row(), book(5), Box(), RULE, nested(20), b"put"]
        for wrong in wrongs:
            for at in range(len(good) + 1):
                self.assert_bad(good[:at] + [wrong] + good[at:], at)
        self.assert_bad([wrongs[0], wrongs[1]], 0)

    def test_many_lists(self):
        chance, bad = random.Random(51), 0
        for entries in some_logs(60, 51):
            self.assertEqual(Log(entries).entries, tuple(entries))
            for at in range(len(entries) + 1):
                entry = some_entry(chance, max(0, (entries[at - 1][0] if at else 0) - 1))
                made = entries[:at] + [entry]
                if len(made) > 12 or len([deed for day, deed in made if deed[0] == "put"]) > 6:
                    continue
                if can_stand(entries[:at], entry):
                    self.assertEqual(Log(made).entries, tuple(made))
                else:
                    bad += 1
                    self.assert_bad(made + entries[at:], at)
        self.assertGreater(bad, 50)

    def test_with_entry(self):
        log = Log()
        for day, deed in ENTRIES:
            log = log.with_entry(day, deed)
        self.assertEqual(log, LOG)
        self.assertEqual(Log().with_entry(known=3, deed=PUT), Log([(3, PUT)]))
        self.assertEqual(Log().with_entry(deed=PUT, known=3), Log([(3, PUT)]))
        self.assertEqual(len(LOG), 5)

    def test_with_entry_and_wrong_values(self):
        for day, deed in [(8, PUT), (None, PUT), (True, PUT), (9, None), (9, list(PUT)), (9, ("take", 1)), (9, ("take", 3)),
                          (9, ("end", 1, 2)), ([], []), (nested(20), nested(20)), (9, ("put", book(5)))]:
            with self.assertRaises(BadLog) as caught:
                LOG.with_entry(day, deed)
            self.assertEqual(caught.exception.at, 5)
        self.assertEqual(LOG, Log(ENTRIES))
        with self.assertRaises(TooMany) as caught:
            Log(puts(6)).with_entry(0, PUT)
        self.assertEqual(caught.exception.most, 6)
        twelve = Log(puts(6) + [(0, ("take", at)) for at in range(6)])
        with self.assertRaises(TooMany) as caught:
            twelve.with_entry(0, PUT)
        self.assertEqual(caught.exception.most, 12)
        with self.assertRaises(BadLog) as caught:
            twelve.with_entry(0, ("take", 0))
        self.assertEqual(caught.exception.at, 12)


class Known(unittest.TestCase):
    def test_before_on_between_and_after_the_days_of_knowledge(self):
        for day, expected, numbers in [
            (0, [], ()), (1, [], ()), (2, [(5, (0, None))], (0,)), (3, [(5, (0, None))], (0,)),
            (4, [(5, (0, 5)), (7, (3, 9))], (0, 1)), (5, [(5, (0, 5)), (7, (3, 9))], (0, 1)), (6, [(5, (0, 5))], (0,)),
            (8, [(5, (0, 5))], (0,)), (9, [(5, (0, 5)), (8, (2, None))], (0, 2)), (BIG, [(5, (0, 5)), (8, (2, None))], (0, 2)),
        ]:
            found = known(LOG, day)
            self.assertEqual((found.__class__, len(found), found[1]), (tuple, 2, numbers))
            self.assertEqual([(each.price, each.box.days) for each in found[0]], expected)

    def test_several_entries_of_one_day(self):
        log = Log([(3, PUT), (3, ("take", 0)), (3, ("put", row(6))), (3, ("end", 1, 2)), (3, ("put", row(7)))])
        self.assertEqual(known(log, 2), (Book(), ()))
        self.assertEqual(known(log, 3), (Book([row(6, days=(0, 1)), row(7)]), (1, 2)))

    def test_the_order_in_which_rows_were_put(self):
        log = Log(puts(6) + [(1, ("end", 1, 5)), (2, ("take", 3)), (3, ("end", 0, 9))])
        self.assertEqual((prices(known(log, 3)[0]), known(log, 3)[1]), ([0, 1, 2, 4, 5], (0, 1, 2, 4, 5)))

    def test_the_empty_log(self):
        for day in [0, 5, BIG]:
            self.assertEqual(known(Log(), day), (Book(), ()))

    def test_many_logs(self):
        for entries in some_logs(200, 52):
            for day in range(12):
                self.assertEqual(known(Log(entries), day), plain_known(entries, day))


class Told(unittest.TestCase):
    def test_what_was_told_on_a_day(self):
        for day, expected in [(0, "none"), (1, "none"), (2, 5), (3, 5), (4, 7), (5, 7), (6, 5), (8, 5), (9, 8), (BIG, 8)]:
            self.assertEqual(told_on(RULE, LOG, SALE, day), expected)
            self.assertEqual(told_on(RULE, LOG, ("bob", "tea", 7, 0), day),
                             {2: 5, 3: 5, 4: 7, 5: 7}.get(day, "none"))
        self.assertEqual(told_on(Rule(), LOG, SALE, 4), "open")

    def test_turns(self):
        self.assertEqual(turns(RULE, LOG, SALE), [(0, "none"), (2, 5), (4, 7), (6, 5), (9, 8)])
        self.assertEqual(turns(Rule(), LOG, SALE), [(0, "none"), (2, 5), (4, "open"), (6, 5), (9, "open")])
        self.assertEqual(turns(Rule(["cheapest"]), LOG, SALE), [(0, "none"), (2, 5)])
        self.assertEqual(turns(RULE, LOG, ("bob", "tea", 7, 0)), [(0, "none"), (2, 5), (4, 7), (6, "none")])
        self.assertEqual(turns(RULE, LOG, ("bob", "tea", 99, 0)), [(0, "none"), (2, 5), (4, "none")])

    def test_turns_on_day_0(self):
        self.assertEqual(turns(RULE, Log(), SALE), [(0, "none")])
        self.assertEqual(turns(RULE, Log(puts(3)), SALE), [(0, 2)])
        self.assertEqual(turns(RULE, Log([(0, PUT), (0, ("take", 0)), (1, PUT)]), SALE), [(0, "none"), (1, 5)])

    def test_turns_count_what_is_told_at_the_end_of_a_day(self):
        log = Log([(2, PUT), (3, ("put", row(6))), (3, ("take", 1)), (4, ("put", row(5))), (7, ("put", row(9)))])
        self.assertEqual(turns(RULE, log, SALE), [(0, "none"), (2, 5), (7, 9)])

    def test_many_logs(self):
        chance = random.Random(53)
        for number, entries in enumerate(some_logs(100, 53)):
            words = [["newest"], ["cheapest", "oldest"], ["narrowest", "newest"], [], ["highest", "widest"]][number % 5]
            log, rule = Log(entries), Rule(words)
            boxes = [deed[1].box for day, deed in entries if deed[0] == "put"]
            for sale in chance.sample(end_sales(boxes), min(4, len(end_sales(boxes)))):
                said = [plain_told(words, entries, sale, day) for day in range(40)]
                self.assertEqual([told_on(rule, log, sale, day) for day in range(40)], said)
                self.assertEqual(turns(rule, log, sale), [
                    (day, said[day]) for day in range(40) if day == 0 or said[day] != said[day - 1]])
                due = [said[-1] - each if isinstance(said[-1], int) and isinstance(each, int) else None for each in said]
                self.assertEqual(refunds(rule, log, [(sale, day) for day in range(20)]), due[:20])
                self.assertEqual(refunds(rule, log, [(sale, day) for day in range(20, 40)]), due[20:])

    def test_lists_are_new_each_time(self):
        for function in [lambda: turns(RULE, LOG, SALE), lambda: refunds(RULE, LOG, [(SALE, 4)] * 2)]:
            found = function()
            kept = list(found)
            found.append(1)
            found[0] = 2
            self.assertEqual(function(), kept)


class Refunds(unittest.TestCase):
    def assert_bad(self, sold, at):
        with self.assertRaises(BadSales, msg=sold) as caught:
            refunds(RULE, LOG, sold)
        self.assertEqual((caught.exception.at, caught.exception.at.__class__), (at, at.__class__))

    def test_late_rows_ended_rows_and_taken_rows(self):
        self.assertEqual(refunds(RULE, LOG, [(SALE, 2), (SALE, 4), (SALE, 6), (SALE, 9), (SALE, BIG)]), [3, 1, 3, 0, 0])
        late = Log([(0, ("put", row(9))), (5, ("put", row(4, days=(2, 3))))])
        self.assertEqual(refunds(RULE, late, [(SALE, 0), (SALE, 4), (SALE, 5), (("a", "a", 1, 0), 0)]), [-5, -5, 0, 0])
        ended = Log([(0, ("put", row(4))), (0, ("put", row(9))), (5, ("end", 1, 3))])
        self.assertEqual(refunds(RULE, ended, [(SALE, 0), (SALE, 5), (("a", "a", 2, 0), 0)]), [-5, 0, 0])
        taken = Log([(0, ("put", row(9))), (0, ("put", row(4))), (7, ("take", 1))])
        self.assertEqual(refunds(RULE, taken, [(SALE, 0), (SALE, 6), (SALE, 7)]), [5, 5, 0])

    def test_none_and_open(self):
        self.assertEqual(refunds(RULE, LOG, [(SALE, 0), (SALE, 1), (("bob", "tea", 7, 0), 4)]), [None, None, None])
        self.assertEqual(refunds(Rule(), LOG, [(SALE, 2), (SALE, 4)]), [None, None])
        log = Log([(0, ("put", row(5))), (1, ("put", row(6))), (2, ("take", 1))])
        self.assertEqual(refunds(Rule(), log, [(SALE, 0), (SALE, 1), (SALE, 2)]), [0, None, 0])
        self.assertEqual(refunds(RULE, Log(), [(SALE, 0)]), [None])

    def test_no_pairs_twenty_and_twenty_one(self):
        self.assertEqual([refunds(RULE, LOG, sold) for sold in [[], ()]], [[], []])
        for sold in [[(SALE, 2)] * 20, ((SALE, 2),) * 20]:
            self.assertEqual(refunds(RULE, LOG, sold), [3] * 20)
        for many in [21, 22, 50]:
            with self.assertRaises(TooMany) as caught:
                refunds(RULE, LOG, [(SALE, 2)] * many)
            self.assertEqual(caught.exception.most, 20)
            self.assert_bad([(SALE, 2)] * many + [None], many)
            self.assert_bad([(SALE, 2)] * 3 + [None] + [(SALE, 2)] * many, 3)

    def test_values_that_are_no_list(self):
        for wrong in plain_kinds() + [None, 0, SALE[0], {0: (SALE, 2)}, LOG, Book(), RULE, b"ab"]:
            self.assert_bad(wrong, None)

    def test_items_that_are_no_pairs(self):
        wrongs = other_kinds() + [
            None, 2, SALE, [SALE, 2], (SALE,), (SALE, 2, 3), (2, SALE), (list(SALE), 2), (SALE[:3], 2), (None, 2), (SALE, None),
            (SALE, -1), (SALE, True), (SALE, "2"), (SALE, (2,)), (("Ann", "tea", 3, 2), 2), (("ann", None, 3, 2), 2),
            (("", "tea", 3, 2), 2), LOG, RULE, row(), nested(20), b"ab"]
        for wrong in wrongs:
            for at in range(3):
                self.assert_bad([(SALE, 2)] * at + [wrong] + [(SALE, 2)] * 2, at)
        self.assert_bad((SALE, 2), 0)
        self.assert_bad([(SALE, 2), None, SALE], 1)

    def test_the_order_of_the_errors(self):
        for wrong in [None, [None], [(SALE, 2)] * 21]:
            self.assertRaises(BadRule, refunds, LOG, RULE, wrong)
            self.assertRaises(BadLog, refunds, RULE, ENTRIES, wrong)
        self.assertRaises(BadSales, refunds, RULE, LOG, None)

    def test_what_is_passed_is_not_changed(self):
        sold = [(SALE, 2), (SALE, 4)]
        refunds(RULE, LOG, sold)
        self.assertEqual((sold, LOG), ([(SALE, 2), (SALE, 4)], Log(ENTRIES)))


class Errors(unittest.TestCase):
    def test_a_log_that_is_none_has_no_index(self):
        for function in [lambda log: known(log, None), lambda log: told_on(RULE, log, None, None),
                         lambda log: turns(RULE, log, None), lambda log: refunds(RULE, log, None)]:
            for wrong in [None, ENTRIES, tuple(ENTRIES), [], Book(), 5]:
                with self.assertRaises(BadLog) as caught:
                    function(wrong)
                self.assertIsNone(caught.exception.at)

    def test_the_order_of_the_errors(self):
        self.assertRaises(BadRule, told_on, None, None, None, None)
        self.assertRaises(BadSale, told_on, RULE, LOG, None, None)
        self.assertRaises(BadDay, told_on, RULE, LOG, SALE, None)
        self.assertRaises(BadDay, known, LOG, None)
        self.assertRaises(BadSale, turns, RULE, LOG, None)
        self.assertRaises(BadBook, told, RULE, LOG, SALE)


if __name__ == "__main__":
    unittest.main()
