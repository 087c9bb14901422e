"""Desks: each form of a line, each spoilt in its ways, and each error by its name."""

import random
import re
import unittest

from rowsmeet.asking import by_pairs, rounds, told
from rowsmeet.books import Book
from rowsmeet.boxes import Box
from rowsmeet.desk import Desk
from rowsmeet.errors import BadText, PriceError
from rowsmeet.firmness import shaky
from rowsmeet.house import House
from rowsmeet.logs import Log
from rowsmeet.matter import least_lots
from rowsmeet.rules import Rule
from rowsmeet.texts import read_row, row_text, rule_text, sale_text
from tests.plain import WORDS, some_row
from tests.test_texts import NO_STRINGS, is_row_text, is_sale_text, spoilt
from tests.values import BIG, book, nested, other_kinds, row

WEEK, ANN, SUMMER = "* * 30-36 0- 7 0", "ann * 33- 0- 8 0", "* * 0-90 0- 10 0"
NOT_UNDERSTOOD = "not understood"
ASKED = ["rows", "firm", "spare", "ask ann tea 35 2", "row ann tea 35 2", "rounds ann tea 35 2"]


def desk_of(*rows, rule="newest", strict=False):
    """A desk at which the rows of these texts were put."""
    desk = Desk(rule, strict)
    for text in rows:
        assert desk.reply("put " + text) == "ok"
    return desk


class Lines(unittest.TestCase):
    def check(self, desk, *lines_and_answers):
        for line, answer in lines_and_answers:
            found = desk.reply(line)
            self.assertEqual((found, found.__class__), (answer, str), line)

    def assert_answered(self, desk, line, answer):
        """This is the answer, and it changes nothing."""
        before = [desk.reply(asked) for asked in ASKED]
        self.check(desk, (line, answer))
        self.assertEqual([desk.reply(asked) for asked in ASKED], before, line)


class Made(Lines):
    def test_texts_of_rules(self):
        for words in [[], ["newest"], ["narrowest", "newest"], WORDS]:
            for desk in [Desk(rule_text(Rule(words))), Desk(text=" ".join(words), strict=True),
                         Desk(strict=False, text=" ".join(words))]:
                self.check(desk, ("rows", "none"), ("firm", "yes"))

    def test_values_that_are_no_text_of_a_rule(self):
        for wrong in NO_STRINGS + [" ", "newest ", "Newest", "newest newest", "new", "newest\n", "put " + WEEK]:
            for strict in [False, True]:
                with self.assertRaises(BadText) as caught:
                    Desk(wrong, strict)
                self.assertEqual(caught.exception.line, 0)

    def test_two_desks_do_not_hang_on_one_another(self):
        one, other = Desk("newest"), Desk("newest")
        self.check(one, ("put " + WEEK, "ok"))
        self.check(other, ("rows", "none"), ("undo", "error NothingDone"), ("put " + ANN, "ok"), ("undo", "ok"))
        self.check(one, ("rows", WEEK), ("undo", "ok"))


class Deeds(Lines):
    def test_put_take_end_and_undo(self):
        self.check(Desk("newest"), ("put " + WEEK, "ok"), ("put " + ANN, "ok"), ("rows", WEEK + "; " + ANN),
                   ("end 1 40", "ok"), ("rows", WEEK + "; ann * 33-39 0- 8 0"), ("take 0", "ok"), ("rows", "ann * 33-39 0- 8 0"),
                   ("end 0 33", "ok"), ("rows", "none"), ("undo", "ok"), ("undo", "ok"), ("undo", "ok"),
                   ("rows", WEEK + "; " + ANN), ("undo", "ok"), ("undo", "ok"), ("rows", "none"), ("undo", "error NothingDone"),
                   ("put " + SUMMER, "ok"), ("rows", SUMMER))

    def test_the_errors_of_deeds(self):
        desk = desk_of(*[WEEK] * 6)
        for line, answer in [
            ("put " + ANN, "error TooMany"), ("take 6", "error NoRow"), ("take 7", "error NoRow"), ("take 10", "error NoRow"),
            ("take 999", "error NoRow"), ("end 6 5", "error NoRow"), ("end 999 999999999", "error NoRow"), ("end 6 0", "error NoRow"),
        ]:
            self.assert_answered(desk, line, answer)
        for line, answer in [("take 0", "error NoRow"), ("end 0 0", "error NoRow"), ("undo", "error NothingDone")]:
            self.assert_answered(Desk("newest"), line, answer)

    def test_a_strict_desk(self):
        desk = desk_of(WEEK, ANN, rule="narrowest newest", strict=True)
        self.assert_answered(desk, "put " + SUMMER, "error Shaky")
        self.check(desk, ("firm", "yes"), ("take 1", "ok"), ("put " + SUMMER, "ok"), ("put " + ANN, "ok"), ("firm", "yes"))
        full = desk_of(*[f"* * 0-{day} 0- 5 0" for day in range(6)], rule="narrowest", strict=True)
        self.assert_answered(full, "put * * 0-0 0- 5 0", "error TooMany")
        self.assert_answered(full, "end 5 5", "error Shaky")
        self.assert_answered(full, "end 6 5", "error NoRow")
        self.check(full, ("end 5 6", "ok"), ("take 4", "ok"), ("end 4 5", "ok"))
        loose = desk_of(WEEK, ANN, SUMMER, rule="narrowest newest")
        self.check(loose, ("firm", "0,1,2 ann a 33 0"))

    def test_numbers_of_rows(self):
        for number in ["0", "1", "5"]:
            self.check(desk_of(*[WEEK] * 6), ("take " + number, "ok"))
            self.check(desk_of(*[WEEK] * 6), (f"end {number} 33", "ok"))
        desk = desk_of(*[WEEK] * 6)
        for number in ["6", "10", "99", "100", "999"]:
            self.assert_answered(desk, "take " + number, "error NoRow")
            self.assert_answered(desk, f"end {number} 33", "error NoRow")
        for number in ["1000", "0000", "00", "01", "001", "000", "-1", "+1", "-0", "", " 1", "1 ", "a", "*", "1.0", "1,2", "0-",
                       "1" * 50, "\u0661", "\u00b9", "one", "1_0", "\n", "1\n", "None", "True"]:
            self.assert_answered(desk, "take " + number, NOT_UNDERSTOOD)
            self.assert_answered(desk, f"end {number} 33", NOT_UNDERSTOOD)

    def test_days(self):
        for day in ["0", "1", "9", "35", "100000000", "999999999"]:
            self.check(desk_of(WEEK), ("end 0 " + day, "ok"))
        self.check(desk_of(SUMMER), ("end 0 7", "ok"), ("rows", "* * 0-6 0- 10 0"))
        self.check(desk_of("* * 5- 0- 10 0"), ("end 0 999999999", "ok"), ("rows", "* * 5-999999998 0- 10 0"))
        desk = desk_of(WEEK)
        for day in ["1000000000", "9999999999", "0000000001", "00", "01", "035", "-1", "+1", "", " 1", "1 ", "a", "*", "1-",
                    "1-2", "35.0", "1 2", "1_0", "\u0661", "9" * 100, "none", "3\n"]:
            self.assert_answered(desk, "end 0 " + day, NOT_UNDERSTOOD)
            # What is not understood is not looked at further.
            self.assert_answered(desk, "end 7 " + day, NOT_UNDERSTOOD)

    def test_deeds_that_change_nothing_stand(self):
        self.check(desk_of(WEEK), ("end 0 90", "ok"), ("undo", "ok"), ("rows", WEEK), ("undo", "ok"), ("rows", "none"))

    def test_rows_with_large_numbers(self):
        text = "a * 0- 1-{0} {0} 9".format("9" * 500)
        self.check(Desk("newest"), ("put " + text, "ok"), ("rows", text), ("ask a b 0 5", "9" * 500))


class Answers(Lines):
    def test_the_ring_of_the_document(self):
        desk = desk_of(WEEK, ANN, SUMMER, rule="narrowest newest")
        self.check(desk, ("ask ann tea 35 2", "8"), ("row ann tea 35 2", "none"), ("rounds ann tea 35 2", "0,1,2; 0,1; 1"),
                   ("ask bob tea 35 2", "7"), ("row bob tea 35 2", "0"), ("rounds bob tea 35 2", "0,2; 0; 0"),
                   ("ask bob tea 91 2", "none"), ("row bob tea 91 2", "none"), ("rounds bob tea 91 2", "-; -; -"),
                   ("firm", "0,1,2 ann a 33 0"), ("spare", "0,1,2"), ("rows", "; ".join([WEEK, ANN, SUMMER])))

    def test_desks_without_rows(self):
        for strict in [False, True]:
            for words in [[], ["newest"], ["cheapest", "oldest", "widest"]]:
                desk = Desk(" ".join(words), strict)
                self.check(desk, ("ask ann tea 35 2", "none"), ("row ann tea 35 2", "none"),
                           ("rounds ann tea 35 2", "; ".join(["-"] * (len(words) + 1))), ("firm", "yes"), ("rows", "none"),
                           ("spare", "-"))

    def test_desks_with_one_row(self):
        for strict in [False, True]:
            desk = desk_of(ANN, rule="highest newest", strict=strict)
            self.check(desk, ("ask ann tea 35 2", "8"), ("row ann tea 35 2", "0"), ("rounds ann tea 35 2", "0; 0; 0"),
                       ("ask ann tea 32 2", "none"), ("row ann tea 32 2", "none"), ("rounds ann tea 32 2", "-; -; -"),
                       ("firm", "yes"), ("rows", ANN), ("spare", "0"))

    def test_desks_with_six_rows(self):
        six = [f"* * 0- 0- {price} 0" for price in [6, 2, 3, 2, 5, 2]]
        for strict in [False, True]:
            desk = desk_of(*six, rule="cheapest newest", strict=strict)
            self.check(desk, ("ask ann tea 35 2", "2"), ("row ann tea 35 2", "5"), ("rounds a b 0 0", "0,1,2,3,4,5; 1,3,5; 5"),
                       ("firm", "yes"), ("rows", "; ".join(six)), ("spare", "1"))
        desk = desk_of(*six, rule="")
        self.check(desk, ("ask ann tea 35 2", "open"), ("row ann tea 35 2", "none"), ("rounds a b 0 0", "0,1,2,3,4,5"),
                   ("firm", "0,1 a a 0 0"), ("spare", "0,1"))

    def test_spare_is_the_first_of_the_least_lots(self):
        self.check(desk_of("* * 0-9 0- 5 0", "* * 10- 0- 5 0", "* * 0- 0- 5 0"), ("spare", "2"))
        self.check(desk_of("* * 0-9 0- 5 0", "* * 10- 0- 6 0", "a * 0- 0- 5 0", rule="cheapest"), ("spare", "0,1,2"))
        # A row that never counts tells nothing.
        desk = desk_of("* * 0- 0- 5 0", "* * 3-4 0- 6 0", rule="cheapest")
        self.check(desk, ("spare", "0"), ("take 0", "ok"), ("spare", "0"), ("take 0", "ok"), ("spare", "-"))

    def test_desks_against_the_functions(self):
        chance, errors = random.Random(91), set()
        for number in range(40):
            words, strict = chance.sample(WORDS, number % 4), number % 3 == 0
            desk, house, rule = Desk(" ".join(words), strict), House(Rule(words), strict), Rule(words)
            for times in range(14):
                each, at, day = some_row(chance), chance.randrange(7), chance.choice([0, 1, 2, 5, 40])
                line, deed = chance.choice([
                    ("put " + row_text(each), lambda: house.put(each)), ("put " + row_text(each), lambda: house.put(each)),
                    ("put " + row_text(each), lambda: house.put(each)), (f"take {at}", lambda: house.take(at)),
                    (f"end {at} {day}", lambda: house.end(at, day)), ("undo", house.undo)])
                try:
                    answer = deed() or "ok"
                except PriceError as error:
                    answer = "error " + error.__class__.__name__
                    errors.add(answer)
                sale = (chance.choice(["a", "ann"]), chance.choice(["tea", "x"]), chance.randrange(5), chance.randrange(4))
                text, best, found = sale_text(sale), by_pairs(rule, house.book, sale), shaky(rule, house.book)
                lot = least_lots(rule, house.book)[0]
                self.check(desk, (line, answer), ("ask " + text, str(told(rule, house.book, sale))),
                           ("row " + text, "none" if best is None else str(best)),
                           ("rounds " + text, "; ".join(
                               [",".join(map(str, left)) or "-" for left in rounds(rule, house.book, sale)])),
                           ("firm", "yes" if not found else ",".join(map(str, found[0])) + " " + sale_text(found[1])),
                           ("rows", "; ".join(map(row_text, house.book)) or "none"), ("spare", ",".join(map(str, lot)) or "-"))
        self.assertEqual(errors, {"error NoRow", "error Shaky", "error NothingDone", "error TooMany"})

    def test_rows_are_texts_that_can_be_put_again(self):
        desk = desk_of(WEEK, ANN, SUMMER)
        again = desk_of(*desk.reply("rows").split("; "))
        self.assertEqual([again.reply(asked) for asked in ASKED], [desk.reply(asked) for asked in ASKED])
        self.assertEqual([read_row(text) for text in desk.reply("rows").split("; ")][2], row(10, days=(0, 90)))


class NotUnderstood(Lines):
    def test_values_that_are_no_string(self):
        desk = desk_of(WEEK, ANN)
        for wrong in NO_STRINGS + other_kinds() + [["undo"], ("undo",), {"undo": 1}, b"undo", ("take", 0), nested(20), Box(),
                                                   book(5), Book(), Rule(), Log(), desk]:
            self.assert_answered(desk, wrong, NOT_UNDERSTOOD)

    def test_lines_of_no_form(self):
        desk = desk_of(WEEK, ANN)
        for line in ["", " ", "\n", "help", "Undo", "UNDO", "undone", "undo 1", "undo ", " undo", "undo\n", "un do", "firm ", " firm",
                     "firm 0", "Firm", "firms", "rows ", "rows 1", "row", "row ", "rowss", "spare ", "spare 0", "spares", "put", "put ",
                     "take", "take ", "end", "end ", "end 0", "end 0 ", "ask", "ask ", "rounds", "rounds ", "round ann tea 35 2",
                     "ask  ann tea 35 2", "ask ann tea 35 2 ", " ask ann tea 35 2", "ask ann tea 35", "ask ann tea 35 2 1",
                     "ask Ann tea 35 2", "ask * tea 35 2", "ask ann * 35 2", "ask ann tea 035 2", "ask ann tea 35 02",
                     "ask ann tea -35 2", "ask ann tea 35- 2", "ask ann tea 35 2\n", "ask\nann tea 35 2", "row * * 0 0", "row 0",
                     "rounds 0", "ask " + WEEK, "put ann tea 35 2", "put * * 30-36 0- 7", "put * * 30-36 0- 7 10",
                     "put * * 30-29 0- 7 0", "put * * 30-36 0- 07 0", "put  * * 30-36 0- 7 0", "put * * 30-36 0- 7 0 ",
                     "Put " + WEEK, "puts " + WEEK, "put * * 30-36 0- 7 0\n", "put\t* * 30-36 0- 7 0", WEEK, "ann tea 35 2",
                     "take 0 1", "take 0,1", "take ann", "end 0 1 2", "end 0,1", "end 1", "undo; undo", "ok", "none", "yes",
                     "not understood", "error NoRow", "put " + WEEK + "; " + ANN, "undo\nundo", "newest", "putundo", "take0",
                     "x" * 3000, "put " * 700, "ask " + "9" * 2990]:
            self.assert_answered(desk, line, NOT_UNDERSTOOD)

    def test_spoilt_lines(self):
        for start, form in [
            ("undo", lambda text: text == "undo"), ("firm", lambda text: text == "firm"), ("rows", lambda text: text == "rows"),
            ("spare", lambda text: text == "spare"),
            ("take 10", lambda text: re.fullmatch("take (0|[1-9][0-9]{0,2})", text)),
            ("end 1 50", lambda text: re.fullmatch("end (0|[1-9][0-9]{0,2}) (0|[1-9][0-9]{0,8})", text)),
            ("ask ann b 10 0", lambda text: text[:4] == "ask " and is_sale_text(text[4:])),
            ("row ann b 10 0", lambda text: text[:4] == "row " and is_sale_text(text[4:])),
            ("rounds ann b 10 0", lambda text: text[:7] == "rounds " and is_sale_text(text[7:])),
            ("put a * 10-20 0- 15 0", lambda text: text[:4] == "put " and is_row_text(text[4:])),
        ]:
            for text in spoilt(start):
                answer = desk_of(WEEK, ANN).reply(text)
                if form(text):
                    self.assertNotEqual(answer, NOT_UNDERSTOOD, text)
                else:
                    self.assertEqual(answer, NOT_UNDERSTOOD, text)

    def test_numbers_beyond_the_limit_are_no_error(self):
        desk = desk_of("* * 0- 0- 5 0")
        for number in [BIG, BIG + 1, 10 ** 20]:
            self.check(desk, (f"ask a b {number} {number}", "5"), (f"row a b {number} 0", "0"), (f"rounds a b 0 {number}", "0; 0"))

    def test_parameters_by_name(self):
        desk = Desk(text="newest")
        self.assertEqual([desk.reply(line="put " + WEEK), desk.reply(line="rows"), desk.reply(line=None)],
                         ["ok", WEEK, NOT_UNDERSTOOD])


if __name__ == "__main__":
    unittest.main()
