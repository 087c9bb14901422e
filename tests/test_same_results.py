"""Equal arguments give equal results in each run of Python, also where a result is open."""

import os
import pathlib
import subprocess
import sys
import unittest

from rowsmeet.asking import rounds, told, unbeaten
from rowsmeet.books import Book
from rowsmeet.desk import Desk
from rowsmeet.entry import entries, entry_pairs
from rowsmeet.firmness import is_whole, least_taken, shaky, unwhole_sale
from rowsmeet.forms import changes, form_of, parting_sale
from rowsmeet.logs import Log, refunds, turns
from rowsmeet.matter import dead_rows, least_lots, left_at, wins_at
from rowsmeet.orders import firm_orders, parting, shaky_book, unlike_choice
from rowsmeet.rules import Rule
from rowsmeet.texts import row_text
from rowsmeet.unknown import prices_back
from tests.plain import WORDS, end_sales, lists_of_words, some_cases
from tests.plain_logs import some_logs

TOP = pathlib.Path(__file__).resolve().parent.parent


def shown(found):
    """The text of a pair of a book and a sale, or of None."""
    if found is None:
        return "none"
    book, sale = found
    return [(row.box.who, row.box.what, row.box.days, row.box.amounts, row.price, row.rank) for row in book], sale


def all_results():
    """The text of many results."""
    results = [firm_orders(WORDS[2:7])]
    for words, book in some_cases(80, 11):
        rule = Rule(words)
        results += [shaky(rule, book), unwhole_sale(rule, book), least_taken(rule, book)]
        for sale in end_sales([row.box for row in book])[::40]:
            results += [rounds(rule, book, sale), told(rule, book, sale), unbeaten(rule, book, sale)]
        other = Book(book.rows[::2])
        results += [form_of(rule, book), changes(rule, book, other), parting_sale(rule, book, other)]
        results += [dead_rows(rule, book), least_lots(rule, book)]
        results += [[wins_at(rule, book, at), left_at(rule, book, at)] for at in range(len(book))]
        if is_whole(rule, book):
            results += [entry_pairs(rule, book), list(entries(rule, book))[::50]]
        desk = Desk(" ".join(words))
        results += [desk.reply("put " + row_text(row)) for row in book]
        results += [desk.reply(line) for line in ["firm", "spare", "rows", "ask a tea 2 1", "rounds a tea 2 1"]]
        results += [prices_back(rule, book, at, [(("a", "tea", 2, 1), 5)]) for at in range(len(book))]
    for made in some_logs(20, 11):
        sale = ("a", "tea", 2, 1)
        results += [turns(Rule(["newest"]), Log(made), sale), refunds(Rule(), Log(made), [(sale, 2)])]
    for words in lists_of_words(2):
        rule = Rule(words)
        results += [shown(shaky_book(rule)), shown(unlike_choice(rule)), shown(parting(rule, Rule(["cheapest"])))]
    return repr(results)


class SameResults(unittest.TestCase):
    def test_in_each_run(self):
        # Sets of strings have another order in each of these runs.
        program = "from tests.test_same_results import all_results; print(all_results())"
        for seed in ["1", "2", "3", "4"]:
            said = subprocess.run([sys.executable, "-c", program], cwd=TOP, capture_output=True, text=True, check=True,
                                  env={**os.environ, "PYTHONHASHSEED": seed, "PYTHONPATH": str(TOP)})
            self.assertEqual(said.stdout.strip(), all_results())


if __name__ == "__main__":
    unittest.main()
