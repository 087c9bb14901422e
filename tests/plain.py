"""What the document says of rules and books, once more: plain and slow, by all sales at the ends of the boxes."""

import itertools
import random

from rowsmeet.books import Book, Row
from rowsmeet.boxes import Box

WORDS = ["narrowest", "widest", "newest", "oldest", "cheapest", "dearest", "highest", "lowest"]
AKIN = [("narrowest", "widest"), ("newest", "oldest"), ("cheapest", "dearest"), ("highest", "lowest")]


def lists_of_words(most):
    """All lists of different words with at most so many words."""
    return [list(words) for many in range(most + 1) for words in itertools.permutations(WORDS, many)]


def are_akin(one, other):
    """Whether two words are akin."""
    return any(one in pair and other in pair for pair in AKIN)


def live_words(words):
    """The live words of a list of words."""
    return [word for at, word in enumerate(words)
            if not any(are_akin(word, ahead) or ahead in ("newest", "oldest") for ahead in words[:at])]


def end_numbers(stretches):
    """The numbers at the ends of stretches and beside them, and 0."""
    numbers = {0}
    for first, last in stretches:
        numbers |= {max(0, first - 1), first, first + 1}
        if last is not None:
            numbers |= {last, last + 1}
    return sorted(numbers)


def end_sales(boxes):
    """All sales at the ends of boxes, with each of their names and one that none has."""
    whos = sorted({box.who for box in boxes} - {None}) + ["nobody"]
    whats = sorted({box.what for box in boxes} - {None}) + ["nothing"]
    days = end_numbers([box.days for box in boxes])
    return list(itertools.product(whos, whats, days, end_numbers([box.amounts for box in boxes])))


def is_in(sale, box):
    """Whether a sale is in a box."""
    who, what, day, amount = sale
    if box.who not in (None, who) or box.what not in (None, what):
        return False
    return all(first <= number and (last is None or number <= last)
               for number, (first, last) in [(day, box.days), (amount, box.amounts)])


class Plain:
    """A book and words, with all that the document says of them."""

    def __init__(self, words, book):
        self.words, self.rows, self.many = list(words), list(book.rows), len(book.rows)
        boxes = [row.box for row in self.rows]
        self.cells = {}
        for sale in end_sales(boxes):
            self.cells.setdefault(tuple(at for at in range(self.many) if is_in(sale, boxes[at])), sale)
        # A box is within another one if no lot of rows that applies has just the first one.
        self.within = {(one, other): not any(one in lot and other not in lot for lot in self.cells)
                       for one in range(self.many) for other in range(self.many)}

    def rows_at(self, sale):
        return [at for at in range(self.many) if is_in(sale, self.rows[at].box)]

    def ahead(self, word, one, other):
        row, other_row = self.rows[one], self.rows[other]
        if word == "narrowest":
            return self.within[one, other] and not self.within[other, one]
        if word == "widest":
            return self.within[other, one] and not self.within[one, other]
        return {
            "newest": one > other, "oldest": one < other,
            "cheapest": row.price < other_row.price, "dearest": row.price > other_row.price,
            "highest": row.rank > other_row.rank, "lowest": row.rank < other_row.rank,
        }[word]

    def parts(self, one, other):
        for word in self.words:
            if self.ahead(word, one, other) or self.ahead(word, other, one):
                return word
        return None

    def beats(self, one, other):
        word = self.parts(one, other)
        return word is not None and self.ahead(word, one, other)

    def by_pairs_of(self, lot):
        best = [one for one in lot if all(one == other or self.beats(one, other) for other in lot)]
        assert len(best) <= 1
        return best[0] if best else None

    def rounds_of(self, lot):
        left = [tuple(lot)]
        for word in self.words:
            left.append(tuple(one for one in left[-1] if not any(self.ahead(word, other, one) for other in left[-1])))
        return left

    def told_of(self, lot):
        prices = {self.rows[at].price for at in self.rounds_of(lot)[-1]}
        if not lot:
            return "none"
        return prices.pop() if len(prices) == 1 else "open"

    def unbeaten_of(self, lot):
        return [one for one in lot if not any(self.beats(other, one) for other in lot)]

    def lots(self):
        """All lots, ordered by length, then ascending."""
        return [lot for many in range(self.many + 1) for lot in itertools.combinations(range(self.many), many)]

    def is_whole_part(self, lot):
        """Whether the part with these rows is whole."""
        cells = [tuple(at for at in cell if at in lot) for cell in self.cells]
        return all(self.by_pairs_of(cell) is not None for cell in cells if cell)

    def is_whole(self):
        return self.is_whole_part(range(self.many))

    def is_firm_part(self, lot):
        """Whether the part with these rows is firm."""
        return all(self.is_whole_part(other) for other in self.lots() if set(other) <= set(lot))

    def is_firm(self):
        return self.is_firm_part(range(self.many))

    def shaky_lot(self):
        """The first one in order of the lots with the fewest rows that are not whole, None if there is none."""
        return next((lot for lot in self.lots() if not self.is_whole_part(lot)), None)

    def least_taken(self):
        whole = {lot: self.is_whole_part(lot) for lot in self.lots()}
        enough = {}
        for taken in self.lots():
            kept = set(range(self.many)) - set(taken)
            enough[taken] = all(whole[lot] for lot in whole if set(lot) <= kept)
        return [lot for lot in enough
                if enough[lot] and not any(enough[other] for other in enough if set(other) < set(lot))]

    def meet(self, lot):
        return any(set(lot) <= set(cell) for cell in self.cells)

    def unparted(self):
        return [(one, other) for one, other in itertools.combinations(range(self.many), 2)
                if self.meet((one, other)) and self.parts(one, other) is None]

    def rings(self):
        triples = itertools.permutations(range(self.many), 3)
        return [(one, two, three) for one, two, three in triples if one < two and one < three
                and all(self.meet(pair) for pair in [(one, two), (two, three), (one, three)])
                and self.beats(one, two) and self.beats(two, three) and self.beats(three, one)]


def some_row(chance):
    """A row with small numbers."""
    days, amounts = chance.choice([(0, None), (0, 2), (1, 2), (2, 2), (2, None), (1, 4)]), chance.choice(
        [(0, None), (0, None), (1, 1), (1, 3), (3, None)])
    box = Box(chance.choice([None, None, "a", "ann"]), chance.choice([None, None, "tea"]), days, amounts)
    return Row(box, chance.choice([3, 3, 5, 7]), chance.choice([0, 0, 1, 2]))


def some_cases(many, seed):
    """So many pairs (words, book) of all sizes, the same ones each time."""
    chance, cases = random.Random(seed), []
    for number in range(many):
        words = chance.sample(WORDS, chance.choice([0, 1, 2, 2, 3, 3, 4, 5, 8]))
        pool = [some_row(chance) for each in range(chance.choice([3, 6, 9]))]
        cases.append((words, Book([chance.choice(pool) for each in range(number % 7)])))
    return cases


def ring_cases(many, seed):
    """So many pairs (words, book), of four to six rows that all meet, so that many go in rings."""
    chance, cases = random.Random(seed), []
    corners = [Box(days=(0, day), amounts=(0, amount)) for day in range(4) for amount in range(4)]
    rules = [["narrowest", "newest"], ["widest", "oldest"], ["narrowest", "cheapest", "newest"],
             ["highest", "widest", "dearest", "oldest"]]
    for number in range(many):
        boxes = chance.sample(corners, 4 + number % 3)
        rows = [Row(box, chance.choice([3, 5, 7]), chance.choice([0, 0, 0, 1])) for box in boxes]
        cases.append((rules[number % 4], Book(rows)))
    return cases


class Entered(Plain):
    """The same book, entered in another order: its rows keep their indexes."""

    def __init__(self, plain, order):
        self.words, self.rows, self.many = plain.words, plain.rows, plain.many
        self.cells, self.within, self.order = plain.cells, plain.within, list(order)

    def ahead(self, word, one, other):
        if word in ("newest", "oldest"):
            one, other = self.order.index(one), self.order.index(other)
            return one > other if word == "newest" else one < other
        return super().ahead(word, one, other)


def leaving_orders(plain):
    """The ascending list of the orders that leave each sale its row."""
    found = []
    for order in itertools.permutations(range(plain.many)):
        entered = Entered(plain, order)
        if all(entered.by_pairs_of(lot) == plain.by_pairs_of(lot) for lot in plain.cells):
            found.append(order)
    return found


def entry_pairs_of(plain):
    """The ascending list of the entry pairs, by their words."""
    found = set()
    for lot in plain.cells:
        for one, other in itertools.permutations(lot, 2):
            best, word = plain.by_pairs_of(lot), plain.parts(one, other)
            if (word == "newest" and other == best) or (word == "oldest" and one == best):
                found.add((one, other))
    return sorted(found)


def whole_cases(many, seed, most_rows=5):
    """So many pairs (words, book) of whole books of none to so many rows, with some words of entry in most rules."""
    chance, cases = random.Random(seed), []
    corners = [Box(days=(0, day), amounts=(0, amount)) for day in range(3) for amount in range(3)]
    while len(cases) < many:
        words = chance.sample(WORDS, chance.choice([1, 2, 2, 3, 3, 4]))
        words[chance.randrange(len(words))] = chance.choice(["newest", "oldest"])
        if len(set(words)) < len(words):
            continue
        pool = [some_row(chance) for each in range(6)]
        if len(cases) % 2:
            pool = [Row(chance.choice(corners), chance.choice([3, 5]), chance.choice([0, 1])) for each in range(6)]
        book = Book([chance.choice(pool) for each in range(len(cases) % (most_rows + 1))])
        if Plain(words, book).is_whole():
            cases.append((words, book))
    return cases
