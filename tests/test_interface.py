"""The names, parameters and places that the document's interface lists."""

import inspect
import unittest

from rowsmeet import (
    asking, books, boxes, desk, entry, errors, firmness, forms, house, logs, matter, orders, rules, texts, unknown,
)

PROPERTIES = {
    boxes.Box: ["who", "what", "days", "amounts"],
    books.Row: ["box", "price", "rank"],
    books.Book: ["rows"],
    rules.Rule: ["words", "live"],
    house.House: ["rule", "strict", "book", "deeds"],
}

OPERATORS = {
    boxes.Box: ["__contains__", "__and__", "__eq__"],
    books.Row: ["__eq__"],
    books.Book: ["__len__", "__getitem__", "__contains__", "__iter__", "__add__", "__eq__"],
    rules.Rule: ["__eq__"],
    logs.Log: ["__len__", "__eq__"],
    house.House: ["__iadd__", "__call__", "__eq__", "__enter__", "__exit__"],
}

SIGNATURES = {
    boxes.is_name: "(thing)",
    boxes.is_sale: "(thing)",
    boxes.is_stretch: "(thing)",
    boxes.meeting: "(boxes)",
    boxes.Box: "(who=None, what=None, days=(0, None), amounts=(0, None))",
    boxes.Box.is_within: "(self, other)",
    boxes.Box.a_sale: "(self)",
    books.Row: "(box, price, rank=0)",
    books.Row.ended: "(self, day)",
    books.Book: "(rows=())",
    books.Book.with_row: "(self, row)",
    books.Book.without: "(self, at)",
    books.Book.with_ended: "(self, at, day)",
    books.Book.some: "(self, lot)",
    books.Book.entered: "(self, order)",
    rules.Rule: "(words=())",
    rules.ahead: "(word, book, one, other)",
    rules.parts: "(rule, book, one, other)",
    rules.beats: "(rule, book, one, other)",
    asking.rows_at: "(book, sale)",
    asking.by_pairs: "(rule, book, sale)",
    asking.by_rounds: "(rule, book, sale)",
    asking.rounds: "(rule, book, sale)",
    asking.told: "(rule, book, sale)",
    asking.unbeaten: "(rule, book, sale)",
    firmness.unparted: "(rule, book)",
    firmness.rings: "(rule, book)",
    firmness.is_firm: "(rule, book)",
    firmness.shaky: "(rule, book)",
    firmness.is_whole: "(rule, book)",
    firmness.unwhole_sale: "(rule, book)",
    firmness.least_taken: "(rule, book)",
    orders.is_always_firm: "(rule)",
    orders.shaky_book: "(rule)",
    orders.choose_alike: "(rule)",
    orders.unlike_choice: "(rule)",
    orders.are_alike: "(one, other)",
    orders.parting: "(one, other)",
    orders.firm_orders: "(words)",
    forms.form_of: "(rule, book)",
    forms.days_told: "(rule, book, who, what)",
    forms.tell_alike: "(rule, one, other)",
    forms.changes: "(rule, one, other)",
    forms.parting_sale: "(rule, one, other)",
    matter.wins_at: "(rule, book, at)",
    matter.left_at: "(rule, book, at)",
    matter.dead_rows: "(rule, book)",
    matter.least_lots: "(rule, book)",
    entry.entry_pairs: "(rule, book)",
    entry.leaves: "(rule, book, order)",
    entry.entries: "(rule, book)",
    entry.count_entries: "(rule, book)",
    entry.entry_at: "(rule, book, number)",
    logs.Log: "(entries=())",
    logs.Log.with_entry: "(self, known, deed)",
    logs.known: "(log, day)",
    logs.told_on: "(rule, log, sale, day)",
    logs.turns: "(rule, log, sale)",
    logs.refunds: "(rule, log, sold)",
    unknown.prices_back: "(rule, book, at, receipts)",
    house.House: "(rule, strict=False)",
    house.House.put: "(self, row)",
    house.House.take: "(self, at)",
    house.House.end: "(self, at, day)",
    house.House.undo: "(self)",
    house.House.__call__: "(self, sale)",
    house.House.row_of: "(self, sale)",
    house.House.news: "(self, sales)",
    house.House.copy: "(self)",
    house.House.tried: "(self, work)",
    texts.rule_text: "(rule)",
    texts.row_text: "(row)",
    texts.sale_text: "(sale)",
    texts.book_text: "(book)",
    texts.log_text: "(log)",
    texts.read_rule: "(text)",
    texts.read_row: "(text)",
    texts.read_sale: "(text)",
    texts.read_book: "(text)",
    texts.read_log: "(text)",
    desk.Desk: "(text, strict=False)",
    desk.Desk.reply: "(self, line)",
}

PLACES = {
    errors: ["PriceError", "BadBox", "BadRow", "BadRows", "TooMany", "NoRow", "BadRule", "BadBook", "BadSale",
             "BadSales", "BadLot", "NotWhole", "NoEntry", "BadLog", "BadDay", "BadReceipts", "Shaky", "NothingDone",
             "BadText"],
    boxes: ["is_name", "is_sale", "is_stretch", "Box", "meeting"],
    books: ["Row", "Book"],
    rules: ["Rule", "ahead", "parts", "beats"],
    asking: ["rows_at", "by_pairs", "by_rounds", "rounds", "told", "unbeaten"],
    firmness: ["unparted", "rings", "is_firm", "shaky", "is_whole", "unwhole_sale", "least_taken"],
    orders: ["is_always_firm", "shaky_book", "choose_alike", "unlike_choice", "are_alike", "parting", "firm_orders"],
    forms: ["form_of", "days_told", "tell_alike", "changes", "parting_sale"],
    matter: ["wins_at", "left_at", "dead_rows", "least_lots"],
    entry: ["entry_pairs", "leaves", "entries", "count_entries", "entry_at"],
    logs: ["Log", "known", "told_on", "turns", "refunds"],
    unknown: ["prices_back"],
    house: ["House"],
    texts: ["rule_text", "row_text", "sale_text", "read_rule", "read_row", "read_sale", "book_text", "log_text",
            "read_book", "read_log"],
    desk: ["Desk"],
}


class Interface(unittest.TestCase):
    def test_parameters(self):
        for thing, signature in SIGNATURES.items():
            self.assertEqual(str(inspect.signature(thing)), signature, thing)

    def test_methods_stand_in_the_class_itself(self):
        for thing in SIGNATURES:
            owner, dot, name = thing.__qualname__.partition(".")
            if dot:
                module = inspect.getmodule(thing)
                self.assertIn(name, vars(vars(module)[owner]))
        for owner, names in OPERATORS.items():
            for name in names:
                self.assertTrue(inspect.isfunction(vars(owner)[name]), (owner, name))

    def test_properties_have_no_setter(self):
        for owner, names in PROPERTIES.items():
            for name in names:
                self.assertIsInstance(vars(owner)[name], property)
                self.assertIsNone(vars(owner)[name].fset)

    def test_each_is_defined_in_its_file(self):
        for module, names in PLACES.items():
            for name in names:
                self.assertEqual(vars(module)[name].__module__, module.__name__, name)


if __name__ == "__main__":
    unittest.main()
