"""Texts of rules, rows, sales, books and logs: written, read, and spoilt."""

import random
import re
import unittest

from rowsmeet.books import Book, Row
from rowsmeet.boxes import Box
from rowsmeet.errors import BadBook, BadLog, BadRow, BadRule, BadSale, BadText
from rowsmeet.logs import Log
from rowsmeet.rules import Rule
from rowsmeet.texts import (
    book_text, log_text, read_book, read_log, read_row, read_rule, read_sale, row_text, rule_text, sale_text,
)
from tests.plain import WORDS, lists_of_words, some_cases, some_row
from tests.plain_logs import can_stand, some_logs
from tests.values import BIG, book, nested, row

HUGE = 10 ** 5000 + 7
READERS = [read_rule, read_row, read_sale, read_book, read_log]

# Values that are no string.
NO_STRINGS = [None, True, False, 0, 5, -1, 10 ** 5000, [], ["newest"], (), ("newest",), {}, {"a": 1}, b"", b"newest", b"\n",
              [[], {}], nested(20), Box(), row(), book(5), Rule(), Log()]

NUMBER = "(0|[1-9][0-9]*)"
NAME = "([a-z]{1,8})"
ROW = rf"({NAME}|\*) ({NAME}|\*) {NUMBER}-{NUMBER}? {NUMBER}-{NUMBER}? {NUMBER} [0-9]"


def is_row_text(text):
    """Whether this is the text of a row, by its looks."""
    if not re.fullmatch(ROW, text):
        return False
    stretches = [part.split("-") for part in text.split(" ")[2:4]]
    return all(last == "" or int(first) <= int(last) for first, last in stretches)


def is_sale_text(text):
    """Whether this is the text of a sale, by its looks."""
    return re.fullmatch(f"{NAME} {NAME} {NUMBER} {NUMBER}", text) is not None


def spoilt(text):
    """All texts that come from this one by one sign less, one sign more, or one exchanged."""
    signs = " 0159-*ab+_.,A\n/"
    found = [text[:at] + text[at + 1:] for at in range(len(text))]
    found += [text[:at] + sign + text[at:] for at in range(len(text) + 1) for sign in signs]
    return found + [text[:at] + sign + text[at + 1:] for at in range(len(text)) for sign in signs]


class Checks(unittest.TestCase):
    def assert_bad(self, read, text, line=0):
        with self.assertRaises(BadText, msg=(read, text)) as caught:
            read(text)
        self.assertEqual((caught.exception.line, caught.exception.line.__class__), (line, int))

    def assert_text(self, write, read, thing, text):
        """This is the text of this value, and the other way about."""
        self.assertEqual(write(thing), text)
        self.assertEqual(read(text), thing)
        self.assertEqual(read(text).__class__, thing.__class__)


class Rules(Checks):
    def test_texts(self):
        for words, text in [([], ""), (["newest"], "newest"), (["narrowest", "newest"], "narrowest newest"),
                            (["lowest", "highest", "dearest"], "lowest highest dearest"), (WORDS, " ".join(WORDS))]:
            self.assert_text(rule_text, read_rule, Rule(words), text)
        for words in lists_of_words(3):
            self.assert_text(rule_text, read_rule, Rule(words), " ".join(words))

    def test_other_texts(self):
        for text in [" ", "newest ", " newest", "newest  oldest", "newest newest", "Newest", "new", "newestoldest", "newest\n",
                     "newest\noldest", "\n", "newest,oldest", "newest oldest ", "newest oldest newest", "none", "*", "0",
                     " ".join(WORDS + ["newest"])]:
            self.assert_bad(read_rule, text)
        for text in spoilt("narrowest oldest"):
            if text != "narrowest oldest":
                self.assert_bad(read_rule, text)

    def test_values_that_are_no_rule(self):
        for wrong in NO_STRINGS + ["", "newest"]:
            if not isinstance(wrong, Rule):
                self.assertRaises(BadRule, rule_text, wrong)


class Rows(Checks):
    def test_texts(self):
        for thing, text in [
            (row(5), "* * 0- 0- 5 0"),
            (row(7, 9, who="ann"), "ann * 0- 0- 7 9"),
            (row(0, 1, what="tea"), "* tea 0- 0- 0 1"),
            (row(12, days=(30, 36)), "* * 30-36 0- 12 0"),
            (row(12, days=(0, 0), amounts=(7, 7)), "* * 0-0 7-7 12 0"),
            (row(12, days=(9, None), amounts=(9, 10)), "* * 9- 9-10 12 0"),
            (row(BIG, 3, who="a", what="zyxwvuts", days=(BIG, BIG), amounts=(BIG - 1, None)),
             "a zyxwvuts 1000000000000-1000000000000 999999999999- 1000000000000 3"),
        ]:
            self.assert_text(row_text, read_row, thing, text)

    def test_many_rows(self):
        chance = random.Random(71)
        for number in range(300):
            thing = some_row(chance)
            self.assertIs(is_row_text(row_text(thing)), True)
            self.assertEqual(read_row(row_text(thing)), thing)

    def test_stretches(self):
        for text in ["5-4", "10-9", "1-0", "-", "-5", "5", "5--", "--5", "5-6-", "5-6-7", "5 6", "05-6", "5-06", "00-", "0-00",
                     "5-*", "*-5", "5-none", "+5-6", "5-+6", "5-6.", "a-b", "5_0-", "", "None", "(5,6)", str(10 ** 40) + "-9"]:
            self.assert_bad(read_row, f"* * {text} 0- 5 0")
            self.assert_bad(read_row, f"* * 0- {text} 5 0")

    def test_names(self):
        for text in ["Ann", "aNn", "abcdefghi", "an-n", "a1", "**", "*a", "", "none", "a.b", "None", "\u00e4", "ann\n", "\tann"]:
            if text != "none":
                self.assert_bad(read_row, f"{text} * 0- 0- 5 0")
                self.assert_bad(read_row, f"* {text} 0- 0- 5 0")
        self.assertEqual(read_row("none open 0- 0- 5 0"), row(5, who="none", what="open"))
        self.assertEqual(read_row("abcdefgh z 0- 0- 5 0"), row(5, who="abcdefgh", what="z"))

    def test_prices_and_ranks(self):
        for text in ["-1", "+1", "01", "00", "1.0", "1e3", "1_0", "", "a", "*", "none", "0x1", "1-", " 1", "\u0661", "\u00b2"]:
            self.assert_bad(read_row, f"* * 0- 0- {text} 0")
            self.assert_bad(read_row, f"* * 0- 0- 5 {text}")
        for rank in [10, 11, 99, BIG, 10 ** 30]:
            self.assert_bad(read_row, f"* * 0- 0- 5 {rank}")
        for rank in range(10):
            self.assertEqual(read_row(f"* * 0- 0- 5 {rank}"), row(5, rank))

    def test_other_texts(self):
        for text in ["", " ", "* * 0- 0- 5", "* * 0- 0- 5 0 0", "* * 0- 0- 5 0 ", " * * 0- 0- 5 0", "*  * 0- 0- 5 0", "put",
                     "* * 0- 0- 5 0\n", "* * 0-\n0- 5 0", "\n", "ann tea 35 2", "narrowest newest"]:
            self.assert_bad(read_row, text)

    def test_a_space_too_many_at_any_place(self):
        text = "ann tea 10-20 3- 15 4"
        for at in range(len(text) + 1):
            self.assert_bad(read_row, text[:at] + " " + text[at:])

    def test_spoilt_texts(self):
        good = 0
        for start in ["ann tea 10-20 3- 15 4", "* b 9-9 0-10 0 0"]:
            for text in spoilt(start):
                if is_row_text(text):
                    good += 1
                    self.assertEqual(row_text(read_row(text)), text)
                else:
                    self.assert_bad(read_row, text)
        self.assertGreater(good, 100)

    def test_numbers_of_many_digits(self):
        for digits in ["1" + "0" * 18, "9" * 18, "9" * 19, "1" + "0" * 35, "1" + "0" * 36, "123456789" * 30, "9" * 700]:
            number = int(digits)
            thing = row(number, 2, who="a", days=(number, number), amounts=(0, number + 1))
            self.assert_text(row_text, read_row, thing, f"a * {digits}-{digits} 0-{number + 1} {digits} 2")
            self.assert_bad(read_row, f"a * 0{digits}- 0- 5 0")
            self.assert_bad(read_row, f"a * {digits}-{number - 1} 0- 5 0")
        # Python itself refuses to write or read these.
        thing = row(HUGE, days=(HUGE, None))
        text = row_text(thing)
        self.assertEqual(text, "* * {0}- 0- {0} 0".format("1" + "0" * 4999 + "7"))
        self.assertEqual(read_row(text), thing)

    def test_values_that_are_no_row(self):
        for wrong in NO_STRINGS + ["", "* * 0- 0- 5 0", (Box(), 5, 0), [row()]]:
            if not isinstance(wrong, Row):
                with self.assertRaises(BadRow) as caught:
                    row_text(wrong)
                self.assertEqual(caught.exception.part, "row")


class Sales(Checks):
    def test_texts(self):
        for thing, text in [
            (("ann", "tea", 35, 2), "ann tea 35 2"), (("a", "abcdefgh", 0, 0), "a abcdefgh 0 0"),
            (("none", "open", BIG, 10), "none open 1000000000000 10"), (("z", "z", 10 ** 300, 9), f"z z {10 ** 300} 9"),
            (("z", "z", 0, HUGE), "z z 0 1" + "0" * 4999 + "7"),
        ]:
            self.assert_text(sale_text, read_sale, thing, text)

    def test_other_texts(self):
        for text in ["", " ", "ann tea 35", "ann tea 35 2 ", " ann tea 35 2", "ann  tea 35 2", "ann tea 35 2 1", "* tea 35 2",
                     "ann * 35 2", "Ann tea 35 2", "abcdefghi tea 35 2", "ann tea 035 2", "ann tea 35 02", "ann tea -1 2",
                     "ann tea 35 -2", "ann tea +35 2", "ann tea 35- 2", "ann tea 35 2-3", "ann tea 35 *", "ann tea 35 2\n",
                     "ann tea 35\n2", "35 2 ann tea", "ann tea none 2", "ann,tea,35,2", "ann tea 3_5 2", "ann tea \u0663 2"]:
            self.assert_bad(read_sale, text)

    def test_spoilt_texts(self):
        good = 0
        for text in spoilt("ann tea 30 2"):
            if is_sale_text(text):
                good += 1
                self.assertEqual(sale_text(read_sale(text)), text)
            else:
                self.assert_bad(read_sale, text)
        self.assertGreater(good, 50)

    def test_values_that_are_no_sale(self):
        for wrong in NO_STRINGS + ["", "ann tea 35 2", ["ann", "tea", 35, 2], ("ann", None, 35, 2), ("ann", "tea", 35, -1)]:
            self.assertRaises(BadSale, sale_text, wrong)


class Books(Checks):
    def test_texts(self):
        self.assert_text(book_text, read_book, Book(), "")
        self.assert_text(book_text, read_book, book(5), "* * 0- 0- 5 0\n")
        self.assert_text(book_text, read_book, Book([row(7, days=(30, 36)), row(8, 2, who="ann", days=(33, None)), row(10)]),
                         "* * 30-36 0- 7 0\nann * 33- 0- 8 2\n* * 0- 0- 10 0\n")
        self.assert_text(book_text, read_book, book(1, 1, 1, 1, 1, 1), "* * 0- 0- 1 0\n" * 6)

    def test_many_books(self):
        for words, thing in some_cases(100, 72):
            self.assert_text(book_text, read_book, thing, "".join([row_text(each) + "\n" for each in thing]))

    def test_a_line_that_is_not_ended(self):
        good = "* * 0- 0- 5 0"
        for many in range(7):
            self.assert_bad(read_book, (good + "\n") * many + good, many)
        self.assert_bad(read_book, good + "\n" + "none\n" + good, 1)

    def test_empty_lines(self):
        good = "* * 0- 0- 5 0\n"
        for many in range(4):
            self.assert_bad(read_book, good * many + "\n", many)
            self.assert_bad(read_book, good * many + "\n" + good, many)
            self.assert_bad(read_book, good * many + " \n", many)
            self.assert_bad(read_book, good * many + " ", many)

    def test_a_seventh_row(self):
        good = "* * 0- 0- 5 0\n"
        for text in [good * 7, good * 8, good * 6 + "none\n", good * 6 + "\n", good * 6 + " "]:
            self.assert_bad(read_book, text, 6)
        self.assert_bad(read_book, good * 3 + "none\n" + good * 4, 3)

    def test_the_first_wrong_line(self):
        lines = ["* * 0- 0- 5 0\n"] * 5
        for wrong in ["", "* * 0- 0- 5 10", "* * 5-4 0- 5 0", "ann tea 35 2", "0 put * * 0- 0- 5 0", "* * 0- 0- 5 0 ", "A * 0- 0- 5 0"]:
            for at in range(5):
                self.assert_bad(read_book, "".join(lines[:at] + [wrong + "\n"] + lines[at:]), at)
                self.assert_bad(read_book, "".join(lines[:at] + [wrong + "\n"] * 2 + lines[at:]), at)

    def test_spoilt_texts(self):
        start = "ann * 10-20 0- 1 0\n* b 2- 0-1 15 9\n"
        for text in spoilt(start):
            lines = text.split("\n")
            wrong = [at for at, line in enumerate(lines[:-1]) if not is_row_text(line)] + [len(lines) - 1] * (lines[-1] != "")
            if wrong:
                self.assert_bad(read_book, text, wrong[0])
            else:
                self.assertEqual(book_text(read_book(text)), text)

    def test_values_that_are_no_book(self):
        for wrong in NO_STRINGS + ["", [row()], (row(),)]:
            if not isinstance(wrong, Book):
                self.assertRaises(BadBook, book_text, wrong)


def plain_entry(line):
    """The entry of a line by its looks, None if there is none."""
    found = re.fullmatch(f"{NUMBER} put (.*)", line)
    if found:
        return (int(found[1]), ("put", read_row(found[2]))) if is_row_text(found[2]) else None
    found = re.fullmatch(f"{NUMBER} end {NUMBER} {NUMBER}", line)
    if found:
        return int(found[1]), ("end", int(found[2]), int(found[3]))
    found = re.fullmatch(f"{NUMBER} take {NUMBER}", line)
    return (int(found[1]), ("take", int(found[2]))) if found else None


def first_wrong_line(text):
    """The number of the first line of the text of a log that is wrong, None if there is none."""
    lines, entries = text.split("\n"), []
    for at, line in enumerate(lines[:-1]):
        entry = plain_entry(line)
        if entry is None or not can_stand(entries, entry):
            return at
        entries.append(entry)
        if len(entries) > 12 or len([deed for day, deed in entries if deed[0] == "put"]) > 6:
            return at
    return len(lines) - 1 if lines[-1] != "" else None


class Logs(Checks):
    def test_texts(self):
        self.assert_text(log_text, read_log, Log(), "")
        thing = Log([(0, ("put", row(5, 1, who="ann"))), (3, ("put", row(6, days=(3, 9)))), (3, ("end", 1, 5)), (10, ("take", 0))])
        self.assert_text(log_text, read_log, thing, "0 put ann * 0- 0- 5 1\n3 put * * 3-9 0- 6 0\n3 end 1 5\n10 take 0\n")
        huge = Log([(10 ** 400, ("put", row(5))), (10 ** 400, ("end", 0, HUGE))])
        self.assert_text(log_text, read_log, huge, "1{0} put * * 0- 0- 5 0\n1{0} end 0 1{1}7\n".format("0" * 400, "0" * 4999))

    def test_many_logs(self):
        for entries in some_logs(100, 73):
            text = log_text(Log(entries))
            self.assertEqual(len(text.split("\n")), len(entries) + 1)
            self.assert_text(log_text, read_log, Log(entries), text)
            self.assertIsNone(first_wrong_line(text))

    def test_entries_that_cannot_stand_there(self):
        start = "2 put * * 3-9 0- 5 0\n"
        for line in ["1 put * * 0- 0- 5 0", "0 take 0", "2 take 1", "2 end 1 5", "5 take 10", "5 end 6 0", f"5 take {10 ** 300}"]:
            self.assert_bad(read_log, start + line + "\n", 1)
            self.assert_bad(read_log, start + "2 end 0 8\n" + line + "\n" + start, 2)
        for gone in ["2 take 0\n", "2 end 0 3\n", "4 end 0 0\n"]:
            self.assertEqual(log_text(read_log(start + gone)), start + gone)
            for line in ["4 take 0\n", "4 end 0 5\n"]:
                self.assert_bad(read_log, start + gone + line, 2)
        self.assert_bad(read_log, "0 take 0\n" + start, 0)

    def test_a_seventh_row_and_a_thirteenth_entry(self):
        put, end = "0 put * * 0- 0- 5 0\n", "0 end 0 9\n"
        self.assertEqual(len(read_log(put * 6)), 6)
        for text in [put * 7, put * 7 + end, put * 12, put * 6 + "\n", put * 6 + put[:-1]]:
            self.assert_bad(read_log, text, 6)
        self.assertEqual(len(read_log(put + end * 11)), 12)
        for text in [put + end * 12, put + end * 20, put + end * 11 + put, put + end * 11 + "x", put + end * 11 + "\n"]:
            self.assert_bad(read_log, text, 12)
        self.assert_bad(read_log, put * 5 + end * 4 + "0 take 9\n" + put * 3, 9)

    def test_other_lines(self):
        start = "0 put * * 0- 0- 5 0\n"
        for line in ["", " ", "put * * 0- 0- 5 0", "0 put", "0 put ", "0 put * * 0- 0- 5", "0  put * * 0- 0- 5 0", "0 take", "0 end",
                     "0 take ", "0 take 0 ", "0 take 0 0", "0 take 00", "0 take -0", "00 take 0", "+0 take 0", "0 end 0",
                     "0 end 0 5 ", "0 end 0 05", "0 end 0  5", "0 end 0 -5", "0 end 0 5 5", "0 end 0 5-", "0 end * 5",
                     " 0 take 0", "0 Take 0", "0 undo", "0", "0 ", "x take 0", "0 put ann tea 3 2", "0 put * * 5-4 0- 5 0",
                     "0 take a", "-1 take 0", "* take 0", "0 puts * * 0- 0- 5 0", "0 take\t0"]:
            self.assert_bad(read_log, start + line + "\n", 1)
            self.assert_bad(read_log, start * 2 + line + "\n" + start, 2)
            self.assert_bad(read_log, line + "\n", 0)

    def test_a_line_that_is_not_ended(self):
        start = "0 put * * 0- 0- 5 0\n"
        self.assert_bad(read_log, start[:-1], 0)
        self.assert_bad(read_log, start + "0 take 0", 1)
        self.assert_bad(read_log, start + "0 take 0\n ", 2)

    def test_spoilt_texts(self):
        start = "1 put * * 5-9 0- 5 0\n1 end 0 6\n12 take 0\n"
        good = 0
        for text in spoilt(start):
            wrong = first_wrong_line(text)
            if wrong is None:
                good += 1
                self.assertEqual(log_text(read_log(text)), text)
            else:
                self.assert_bad(read_log, text, wrong)
        self.assertGreater(good, 30)

    def test_values_that_are_no_log(self):
        for wrong in NO_STRINGS + ["", [(0, ("put", row()))], (), book(5)]:
            if not isinstance(wrong, Log):
                with self.assertRaises(BadLog) as caught:
                    log_text(wrong)
                self.assertIsNone(caught.exception.at)


class Readers(Checks):
    def test_values_that_are_no_string(self):
        for read in READERS:
            for wrong in NO_STRINGS:
                self.assert_bad(read, wrong)

    def test_parameters_by_name(self):
        self.assertEqual([read_rule(text="newest"), read_sale(text="a b 0 1")], [Rule(["newest"]), ("a", "b", 0, 1)])
        self.assertEqual([read_row(text="* * 0- 0- 5 0"), read_book(text=""), read_log(text="")], [row(5), Book(), Log()])
        self.assertEqual([rule_text(rule=Rule()), row_text(row=row(5)), sale_text(sale=("a", "b", 0, 1))],
                         ["", "* * 0- 0- 5 0", "a b 0 1"])
        self.assertEqual([book_text(book=Book()), log_text(log=Log())], ["", ""])

    def test_long_texts(self):
        for read in READERS:
            for text in ["x" * 3000, " " * 3000, "\n" * 3000, "9" * 3000, "* " * 1500, "newest " * 400]:
                self.assert_bad(read, text)
        self.assertEqual(read_sale("a b 0 " + "9" * 2994)[3], 10 ** 2994 - 1)


if __name__ == "__main__":
    unittest.main()
