"""Equal arguments give equal results in each run of Python, also where a result is open."""

import os
import pathlib
import subprocess
import sys
import unittest

from rowsmeet.asking import rounds, told, unbeaten
from rowsmeet.firmness import least_taken, shaky, unwhole_sale
from rowsmeet.orders import firm_orders, parting, shaky_book, unlike_choice
from rowsmeet.rules import Rule
from tests.plain import WORDS, end_sales, lists_of_words, some_cases

TOP = pathlib.Path(__file__).resolve().parent.parent


def shown(found):
    """The text of a pair of a book and a sale, or of None."""
    if found is None:
        return "none"
    book, sale = found
    return [(row.box.who, row.box.what, row.box.days, row.box.amounts, row.price, row.rank) for row in book], sale


def all_results():
    """The text of many results."""
    results = [firm_orders(WORDS[2:7])]
    for words, book in some_cases(80, 11):
        rule = Rule(words)
        results += [shaky(rule, book), unwhole_sale(rule, book), least_taken(rule, book)]
        for sale in end_sales([row.box for row in book])[::40]:
            results += [rounds(rule, book, sale), told(rule, book, sale), unbeaten(rule, book, sale)]
    for words in lists_of_words(2):
        rule = Rule(words)
        results += [shown(shaky_book(rule)), shown(unlike_choice(rule)), shown(parting(rule, Rule(["cheapest"])))]
    return repr(results)


class SameResults(unittest.TestCase):
    def test_in_each_run(self):
        # Sets of strings have another order in each of these runs.
        program = "from tests.test_same_results import all_results; print(all_results())"
        for seed in ["1", "2", "3", "4"]:
            said = subprocess.run([sys.executable, "-c", program], cwd=TOP, capture_output=True, text=True, check=True,
                                  env={**os.environ, "PYTHONHASHSEED": seed, "PYTHONPATH": str(TOP)})
            self.assertEqual(said.stdout.strip(), all_results())


if __name__ == "__main__":
    unittest.main()
