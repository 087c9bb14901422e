"""The forms of books, the days told of names, and where two books tell different things."""

import random
import unittest

from rowsmeet.asking import told
from rowsmeet.books import Book, Row
from rowsmeet.boxes import Box, is_sale
from rowsmeet.errors import BadSale
from rowsmeet.forms import changes, days_told, form_of, parting_sale, tell_alike
from rowsmeet.rules import Rule
from tests.plain import end_numbers, ring_cases, some_cases, some_row
from tests.plain_forms import PlainForms
from tests.values import BIG, book, nested, other_kinds, row


ALWAYS = (0, None)
WEEK, ANN, SUMMER = row(7, days=(30, 36)), row(8, who="ann", days=(33, None)), row(10, days=(0, 90))
RING, RING_RULE = Book([WEEK, ANN, SUMMER]), Rule(["narrowest", "newest"])


def all_days(*pairs):
    """The days told for which no amount matters: from pairs (stretch, told)."""
    return [(stretch, [(ALWAYS, said)]) for stretch, said in pairs]


def all_amounts(*pairs):
    """The days told for which no day matters."""
    return [(ALWAYS, list(pairs))]


def ends(stretch):
    """The first and the last number of a stretch, and far behind it if it has no end."""
    first, last = stretch
    return [first, first + 1, first + BIG] if last is None else [first, last]


class Forms(unittest.TestCase):
    def check(self, rule, some_book):
        """The form, found to be true of the sales at the ends of its stretches and next to them."""
        form = form_of(rule, some_book)
        for (who, what), days in form.items():
            self.check_stretches([stretch for stretch, amounts in days], [amounts for stretch, amounts in days])
            for stretch, amounts in days:
                self.check_stretches([of for of, said in amounts], [said for of, said in amounts])
                for of, said in amounts:
                    for day in ends(stretch):
                        for amount in ends(of):
                            sale = (who or "nobody", what or "nobody", day, amount)
                            self.assertEqual(told(rule, some_book, sale), said)
        return form

    def check_stretches(self, stretches, said):
        """From 0 without end, one beginning behind the other, and no two neighbours alike."""
        self.assertEqual(stretches[0][0], 0)
        self.assertEqual([last for first, last in stretches], [first - 1 for first, last in stretches[1:]] + [None])
        for one, other in zip(said, said[1:]):
            self.assertNotEqual(one, other)

    def assert_form(self, rule, some_book, expected):
        form = self.check(rule, some_book)
        self.assertEqual(form, expected)
        self.assertEqual(list(form), sorted(expected))

    def test_the_book_without_rows(self):
        for words in [[], ["newest"], ["cheapest", "widest"]]:
            self.assert_form(Rule(words), Book(), {("", ""): all_days((ALWAYS, "none"))})

    def test_a_row_for_all_sales(self):
        self.assert_form(Rule(), book(5), {("", ""): all_days((ALWAYS, 5))})
        self.assert_form(Rule(), book(5, 5), {("", ""): all_days((ALWAYS, 5))})
        self.assert_form(Rule(), book(5, 6), {("", ""): all_days((ALWAYS, "open"))})
        self.assert_form(Rule(["dearest"]), book(0, 5, 6), {("", ""): all_days((ALWAYS, 6))})

    def test_days_and_amounts(self):
        self.assert_form(Rule(), Book([row(5, days=(3, 6))]), {
            ("", ""): all_days(((0, 2), "none"), ((3, 6), 5), ((7, None), "none"))})
        self.assert_form(Rule(), Book([row(5, amounts=(0, 6)), row(0, amounts=(7, None))]), {
            ("", ""): all_amounts(((0, 6), 5), ((7, None), 0))})
        self.assert_form(Rule(), Book([row(5, days=(0, 0), amounts=(1, 1))]), {
            ("", ""): [((0, 0), [((0, 0), "none"), ((1, 1), 5), ((2, None), "none")]), ((1, None), [(ALWAYS, "none")])]})
        self.assert_form(Rule(["narrowest"]), Book([row(5, days=(2, None)), row(3, days=(2, 4), amounts=(9, None))]), {
            ("", ""): [((0, 1), [(ALWAYS, "none")]), ((2, 4), [((0, 8), 5), ((9, None), 3)]), ((5, None), [(ALWAYS, 5)])]})

    def test_prices_none_and_open(self):
        some_book = Book([row(5, days=(0, 4)), row(6, days=(3, 6)), row(6, days=(4, 8))])
        self.assert_form(Rule(), some_book, {
            ("", ""): all_days(((0, 2), 5), ((3, 4), "open"), ((5, 8), 6), ((9, None), "none"))})

    def test_the_ring_of_the_document(self):
        self.assert_form(RING_RULE, RING, {
            ("", ""): all_days(((0, 29), 10), ((30, 36), 7), ((37, 90), 10), ((91, None), "none")),
            ("ann", ""): all_days(((0, 29), 10), ((30, 32), 7), ((33, 36), 8), ((37, 90), 10), ((91, None), 8)),
        })

    def test_stretches_of_several_rows_of_one_price_are_one(self):
        some_book = Book([row(5, days=(0, 4)), row(5, days=(5, 9)), row(5, days=(8, None), amounts=(0, 9)),
                          row(5, days=(10, None), amounts=(10, None))])
        self.assert_form(Rule(), some_book, {("", ""): all_days((ALWAYS, 5))})

    def test_customers_kinds_and_both(self):
        self.assert_form(Rule(), Book([row(5, who="ann"), row(6, who="bob")]), {
            ("", ""): all_days((ALWAYS, "none")), ("ann", ""): all_days((ALWAYS, 5)), ("bob", ""): all_days((ALWAYS, 6))})
        self.assert_form(Rule(), Book([row(5, what="tea")]), {
            ("", ""): all_days((ALWAYS, "none")), ("", "tea"): all_days((ALWAYS, 5))})
        self.assert_form(Rule(["narrowest"]), Book([row(5), row(7, who="ann", what="tea")]), {
            ("", ""): all_days((ALWAYS, 5)), ("", "tea"): all_days((ALWAYS, 5)),
            ("ann", ""): all_days((ALWAYS, 5)), ("ann", "tea"): all_days((ALWAYS, 7))})
        self.assert_form(Rule(["highest"]), Book([row(5, 1, who="b"), row(7, what="a")]), {
            ("", ""): all_days((ALWAYS, "none")), ("", "a"): all_days((ALWAYS, 7)),
            ("b", ""): all_days((ALWAYS, 5)), ("b", "a"): all_days((ALWAYS, 5))})

    def test_a_name_may_be_both_a_customer_and_a_kind(self):
        self.assert_form(Rule(), Book([row(5, who="a"), row(5, what="a")]), {
            ("", ""): all_days((ALWAYS, "none")), ("", "a"): all_days((ALWAYS, 5)),
            ("a", ""): all_days((ALWAYS, 5)), ("a", "a"): all_days((ALWAYS, 5))})

    def test_names_of_rows_that_are_not_marked(self):
        everyone = {("", ""): all_days((ALWAYS, 5))}
        for some_book in [Book([row(5), row(5, who="ann")]), Book([row(5), row(6, who="ann", what="tea")]),
                          Book([row(5, what="tea"), row(5)]), Book([row(9, who="ann"), row(5), row(9, who="bob")])]:
            self.assert_form(Rule(["cheapest"]), some_book, everyone)
        # Ann is told otherwise only of tea, and tea only to Ann.
        self.assert_form(Rule(["cheapest"]), Book([row(5), row(9, who="bob"), row(4, who="ann", what="tea")]), {
            ("", ""): all_days((ALWAYS, 5)), ("", "tea"): all_days((ALWAYS, 5)),
            ("ann", ""): all_days((ALWAYS, 5)), ("ann", "tea"): all_days((ALWAYS, 4))})

    def test_rows_that_never_count(self):
        plain = {("", ""): all_days(((0, 4), 5), ((5, None), "none"))}
        for more in [row(6), row(9, days=(2, 3)), row(5, days=(1, 2)), row(6, who="ann"), row(6, days=(0, 4))]:
            expected = dict(plain)
            if more in [row(6)]:
                expected = {("", ""): all_days(((0, 4), 5), ((5, None), 6))}
            if more.box.who:
                expected["ann", ""] = all_days(((0, 4), 5), ((5, None), 6))
            self.assert_form(Rule(["cheapest"]), Book([more, row(5, days=(0, 4))]), expected)

    def test_six_names(self):
        some_book = Book([row(at, who=name, what=name) for at, name in enumerate("fbdace")])
        form = self.check(Rule(), some_book)
        self.assertEqual(list(form), [(who, what) for who in ["", *"abcdef"] for what in ["", *"abcdef"]])
        self.assertEqual(form["d", "d"], all_days((ALWAYS, 2)))
        self.assertEqual(form["d", "c"], all_days((ALWAYS, "none")))

    def test_numbers_at_the_limit(self):
        some_book = Book([row(BIG, days=(BIG, BIG), amounts=(0, BIG))])
        self.assert_form(Rule(), some_book, {("", ""): [
            ((0, BIG - 1), [(ALWAYS, "none")]), ((BIG, BIG), [((0, BIG), BIG), ((BIG + 1, None), "none")]),
            ((BIG + 1, None), [(ALWAYS, "none")])]})

    def test_many_books(self):
        for words, some_book in some_cases(120, 21) + ring_cases(20, 21):
            self.assert_form(Rule(words), some_book, PlainForms(words, some_book).form())

    def test_forms_are_new_each_time_and_throughout(self):
        some_book = Book([row(5, days=(0, 4)), row(6, who="ann")])
        form, expected = form_of(Rule(), some_book), PlainForms([], some_book).form()
        for days in form.values():
            days[0][1].append(1)
            self.assertNotEqual(days[1][1], days[0][1])
            days.append(2)
        form["", ""].append(3)
        del form["ann", ""]
        self.assertEqual(form_of(Rule(), some_book), expected)
        lists = [id(amounts) for days in form_of(Rule(), some_book).values() for stretch, amounts in days]
        self.assertEqual(len(set(lists)), len(lists))

    def test_kinds_of_values(self):
        form = form_of(RING_RULE, RING)
        self.assertEqual([form.__class__] + [each.__class__ for each in form], [dict, tuple, tuple])
        for days in form.values():
            self.assertIs(days.__class__, list)
            for pair in days:
                self.assertEqual([pair.__class__, pair[0].__class__, pair[1].__class__], [tuple, tuple, list])
                self.assertEqual([each.__class__ for each in pair[1]], [tuple])


class Days(unittest.TestCase):
    def test_marked_names_other_names_and_none(self):
        some_book = Book([row(5), row(6, who="ann"), row(7, who="bob", what="tea", days=(2, 3)), row(9, who="cid")])
        rule, five = Rule(["narrowest", "cheapest"]), all_days((ALWAYS, 5))
        for who, what, expected in [
            ("ann", "", all_days((ALWAYS, 6))), ("ann", "tea", all_days((ALWAYS, 6))), ("ann", "x", all_days((ALWAYS, 6))),
            ("bob", "tea", all_days(((0, 1), 5), ((2, 3), 7), ((4, None), 5))), ("bob", "", five), ("bob", "ann", five),
            ("", "", five), ("", "tea", five), ("eve", "tea", five), ("eve", "eve", five), ("tea", "bob", five),
            ("cid", "", all_days((ALWAYS, 9))), ("abcdefgh", "abcdefgh", five),
        ]:
            self.assertEqual(days_told(rule, some_book, who, what), expected, (who, what))

    def test_names_of_rows_that_are_not_marked(self):
        some_book = Book([row(5), row(9, who="ann")])
        self.assertEqual(days_told(Rule(["cheapest"]), some_book, "ann", ""), all_days((ALWAYS, 5)))

    def test_the_form_has_the_days_of_marked_names(self):
        for words, some_book in some_cases(40, 22):
            rule = Rule(words)
            form = form_of(rule, some_book)
            for who in ["", "a", "ann", "nobody"]:
                for what in ["", "tea", "a"]:
                    kept = (who if (who, "") in form else "", what if ("", what) in form else "")
                    self.assertEqual(days_told(rule, some_book, who, what), form[kept])
                    self.assertEqual(days_told(rule, some_book, who, what), PlainForms(words, some_book).days(who, what))

    def test_values_that_are_neither_a_name_nor_empty(self):
        wrongs = [thing for thing in other_kinds() if thing != ""] + [
            None, 0, 1, " ", "*", "Ann", "ann ", "abcdefghi", "an-n", "\u00e4", ["ann"], ("ann",), b"ann", b"", Box("ann"),
            RING, Rule(), nested(20)]
        for wrong in wrongs:
            for names in [(wrong, "tea"), ("ann", wrong), (wrong, ""), ("", wrong), (wrong, wrong)]:
                self.assertRaises(BadSale, days_told, RING_RULE, RING, *names)

    def test_days_are_new_each_time(self):
        found = days_told(RING_RULE, RING, "ann", "")
        kept = [(stretch, list(amounts)) for stretch, amounts in found]
        found[0][1].append(1)
        found.append(2)
        self.assertEqual(days_told(RING_RULE, RING, "ann", ""), kept)


class Two(unittest.TestCase):
    def check(self, rule, one, other, expected):
        """The changes, and what hangs on them."""
        found = changes(rule, one, other)
        self.assertEqual(found, expected)
        self.assertEqual(list(found), sorted(expected))
        self.assertIs(tell_alike(rule, one, other), not expected)
        self.assertEqual(form_of(rule, one) == form_of(rule, other), not expected)
        sale = parting_sale(rule, one, other)
        if not expected:
            self.assertIsNone(sale)
        else:
            self.assertIs(is_sale(sale), True)
            self.assertNotEqual(told(rule, one, sale), told(rule, other, sale))

    def test_equal_books(self):
        for some_book in [Book(), book(5), RING, book(1, 2, 3, 4, 5, 6)]:
            self.check(RING_RULE, some_book, Book(some_book.rows), {})

    def test_unlike_books_that_tell_the_same(self):
        cheapest = Rule(["cheapest"])
        self.check(cheapest, book(5), book(6, 5, 5), {})
        self.check(cheapest, book(5), Book([row(5, days=(0, 9)), row(5, 3, days=(10, None))]), {})
        self.check(cheapest, Book([row(5), row(6, who="ann")]), Book([row(7, what="tea"), row(5)]), {})
        self.check(Rule(), Book([row(5, who="ann"), row(6, who="ann")]), Book([row(6, who="ann"), row(5, who="ann")]), {})
        self.check(Rule(["newest"]), Book([row(5, amounts=(0, 3)), row(6)]), book(6), {})

    def test_one_stretch_of_days(self):
        self.check(Rule(["newest"]), book(5), Book([row(5), row(6, days=(3, 4))]), {
            ("", ""): all_days(((3, 4), (5, 6)))})
        self.check(Rule(["newest"]), Book([row(5), row(6, days=(3, 4))]), book(5), {
            ("", ""): all_days(((3, 4), (6, 5)))})

    def test_one_stretch_of_amounts(self):
        self.check(Rule(["newest"]), book(5), Book([row(5), row(6, amounts=(3, None))]), {
            ("", ""): all_amounts(((3, None), (5, 6)))})
        self.check(Rule(["newest"]), Book(), Book([row(0, amounts=(3, 3))]), {
            ("", ""): all_amounts(((3, 3), ("none", 0)))})

    def test_prices_none_and_open(self):
        self.check(Rule(), book(5, 6), Book([row(5, days=(2, None))]), {
            ("", ""): all_days(((0, 1), ("open", "none")), ((2, None), ("open", 5)))})

    def test_names(self):
        self.check(Rule(["newest"]), book(5), Book([row(5), row(6, who="ann")]), {("ann", ""): all_days((ALWAYS, (5, 6)))})
        self.check(Rule(["newest"]), book(5), Book([row(5), row(6, what="tea")]), {("", "tea"): all_days((ALWAYS, (5, 6)))})
        self.check(Rule(["newest"]), Book([row(5, who="ann")]), Book([row(5, who="bob")]), {
            ("ann", ""): all_days((ALWAYS, (5, "none"))), ("bob", ""): all_days((ALWAYS, ("none", 5)))})
        self.check(Rule(["newest"]), book(5), Book([row(5), row(6, who="ann", what="tea")]), {
            ("ann", "tea"): all_days((ALWAYS, (5, 6)))})

    def test_a_name_that_both_books_tell_alike_is_left_out(self):
        both = row(4, who="ann")
        self.check(Rule(["narrowest"]), Book([row(5), both]), Book([row(6), both]), {("", ""): all_days((ALWAYS, (5, 6)))})

    def test_a_name_that_is_marked_in_one_book_only(self):
        # Both books tell Bob 5, and only one of them tells all others so, too.
        self.check(Rule(["narrowest"]), book(5), Book([row(6), row(5, who="bob")]), {("", ""): all_days((ALWAYS, (5, 6)))})
        # Only one book tells Bob anything else than all others.
        self.check(Rule(["narrowest"]), Book([row(5), row(7, who="bob")]), book(6), {
            ("", ""): all_days((ALWAYS, (5, 6))), ("bob", ""): all_days((ALWAYS, (7, 6)))})

    def test_a_marked_kind_keeps_the_pairs_of_all_customers(self):
        # Tea is marked, as Ann's is told otherwise: so it stands beside "" also for all others.
        self.check(Rule(["narrowest"]), book(5), Book([row(6), row(4, who="ann", what="tea")]), {
            ("", ""): all_days((ALWAYS, (5, 6))), ("", "tea"): all_days((ALWAYS, (5, 6))),
            ("ann", ""): all_days((ALWAYS, (5, 6))), ("ann", "tea"): all_days((ALWAYS, (5, 4)))})

    def test_what_remains_is_not_put_together_again(self):
        # On the days up to 4 small amounts have another price than behind them, in both books.
        small = row(3, days=(0, 4), amounts=(0, 1))
        self.check(Rule(["narrowest"]), Book([row(5), small]), Book([row(6), small]), {("", ""): [
            ((0, 4), [((2, None), (5, 6))]), ((5, None), [(ALWAYS, (5, 6))])]})
        both = [row(3, days=(0, 4), amounts=(0, 1)), row(2, days=(5, None), amounts=(0, 1))]
        self.check(Rule(["narrowest"]), Book([row(5), *both]), Book([row(6), *both]), {("", ""): [
            ((0, 4), [((2, None), (5, 6))]), ((5, None), [((2, None), (5, 6))])]})

    def test_stretches_between_which_something_was_left_out(self):
        middle = row(1, amounts=(4, 5))
        self.check(Rule(["narrowest"]), Book([row(5), middle]), Book([row(6), middle]), {
            ("", ""): all_amounts(((0, 3), (5, 6)), ((6, None), (5, 6)))})
        day = row(1, days=(4, 4))
        self.check(Rule(["narrowest"]), Book([row(5), day]), Book([row(6), day]), {
            ("", ""): all_days(((0, 3), (5, 6)), ((5, None), (5, 6)))})

    def test_twelve_names(self):
        one = Book([row(5, who=name) for name in "abcdef"])
        other = Book([row(5, who=name) for name in "ghijkl"])
        found = changes(Rule(), one, other)
        self.assertEqual(list(found), [(name, "") for name in "abcdefghijkl"])
        self.assertEqual(found["g", ""], all_days((ALWAYS, ("none", 5))))
        same = Book([row(5, who=name, days=(0, 3)) for name in "abcdef"])
        self.check(Rule(), one, same, {(name, ""): all_days(((4, None), (5, "none"))) for name in "abcdef"})

    def test_a_sale_of_names_that_no_row_of_either_book_has(self):
        # Rows have the names that come to mind first: only names behind them part these books.
        rule = Rule(["narrowest"])
        one = Book([row(7)] + [row(5, who=name) for name in "abcde"])
        other = Book([row(8)] + [row(5, who=name) for name in "abcde"])
        self.check(rule, one, other, {("", ""): all_days((ALWAYS, (7, 8)))})
        one = Book([row(7)] + [row(5, what=name) for name in "abcde"])
        other = Book([row(8)] + [row(5, what=name) for name in "abcde"])
        self.check(rule, one, other, {("", ""): all_days((ALWAYS, (7, 8)))})
        one = Book([row(7, days=(0, 0))] + [row(5, who=name) for name in "abcde"])
        other = Book([row(8, days=(0, 0))] + [row(5, who=name) for name in "fghij"])
        sale = parting_sale(rule, one, other)
        self.assertNotEqual(told(rule, one, sale), told(rule, other, sale))

    def test_many_books(self):
        chance, alike = random.Random(23), 0
        for words, one in some_cases(140, 23):
            rows = list(one.rows)
            for times in range(chance.choice([0, 1, 1, 2])):
                if rows and chance.random() < 0.5:
                    rows.pop(chance.randrange(len(rows)))
                rows.insert(chance.randrange(len(rows) + 1), some_row(chance))
            other = Book(rows[:6])
            expected = PlainForms(words, one, other).changes()
            alike += not expected
            self.check(Rule(words), one, other, expected)
        self.assertTrue(20 < alike < 120)

    def test_all_sales_of_which_different_things_are_told(self):
        for words, one in some_cases(30, 24):
            other = Book(one.rows[1:])
            rule, found = Rule(words), changes(Rule(words), one, other)
            boxes = [each.box for each in one.rows]
            for day in end_numbers([box.days for box in boxes]):
                for amount in end_numbers([box.amounts for box in boxes]):
                    said = (told(rule, one, ("nobody", "nobody", day, amount)),
                            told(rule, other, ("nobody", "nobody", day, amount)))
                    listed = [pair for stretch, amounts in found.get(("", ""), []) for of, pair in amounts
                              if stretch[0] <= day and (stretch[1] is None or day <= stretch[1])
                              and of[0] <= amount and (of[1] is None or amount <= of[1])]
                    self.assertEqual(listed, [said] if said[0] != said[1] else [])

    def test_results_are_new_each_time(self):
        one, other = book(5), book(6)
        found = changes(Rule(), one, other)
        found["", ""][0][1].append(1)
        found["", ""].append(2)
        found["a", ""] = 3
        self.assertEqual(changes(Rule(), one, other), {("", ""): all_days((ALWAYS, (5, 6)))})
        self.assertEqual((one, other), (book(5), book(6)))

    def test_equal_arguments_give_equal_sales(self):
        for words, one in some_cases(30, 25):
            other = Book(one.rows[::-1])
            again = parting_sale(Rule(words), Book(list(one.rows)), Book(list(other.rows)))
            self.assertEqual(parting_sale(Rule(words), one, other), again)


if __name__ == "__main__":
    unittest.main()
