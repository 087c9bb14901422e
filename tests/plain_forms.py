"""What the document says of forms and changes, once more: plain and slow, by each single day and amount."""

from tests.plain import Plain

# No row of the cases has a number beyond these: what is told there is told from there on.
MOST = 7

# A name that no row has. It stands for "" here.
NOBODY = "nobody"


def longest(things):
    """Pairs (stretch, thing): the longest stretches of numbers of which one thing is said, the last one without end."""
    pairs = []
    for number, thing in enumerate(things):
        if pairs and pairs[-1][1] == thing:
            pairs[-1] = ((pairs[-1][0][0], number), thing)
        else:
            pairs.append(((number, number), thing))
    (first, last), thing = pairs.pop()
    return pairs + [((first, None), thing)]


class PlainForms:
    """What one or several books tell by some words: of several ones, the tuple of what each of them tells."""

    def __init__(self, words, *books):
        self.plains = [Plain(words, book) for book in books]
        boxes = [row.box for book in books for row in book.rows]
        self.whos = [""] + sorted({box.who for box in boxes} - {None})
        self.whats = [""] + sorted({box.what for box in boxes} - {None})
        self.known = {}

    def told(self, sale):
        said = tuple(plain.told_of(tuple(plain.rows_at(sale))) for plain in self.plains)
        return said if len(said) > 1 else said[0]

    def days(self, who, what):
        if (who, what) not in self.known:
            names = (who or NOBODY, what or NOBODY)
            self.known[who, what] = longest(
                [longest([self.told((*names, day, amount)) for amount in range(MOST + 1)]) for day in range(MOST + 1)])
        return self.known[who, what]

    def form(self):
        whos = [who for who in self.whos if not who or any(self.days(who, what) != self.days("", what) for what in self.whats)]
        whats = [what for what in self.whats if not what or any(self.days(who, what) != self.days(who, "") for who in self.whos)]
        return {(who, what): self.days(who, what) for who in whos for what in whats}

    def changes(self):
        left = {}
        for names, days in self.form().items():
            kept = []
            for stretch, amounts in days:
                unlike = [(of, (one, other)) for of, (one, other) in amounts if one != other]
                if unlike:
                    kept.append((stretch, unlike))
            if kept:
                left[names] = kept
        return left
