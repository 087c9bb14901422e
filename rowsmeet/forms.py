"""What a book tells of all sales: its form, and where two books tell different things.

Here "" stands for a name that no row has.
"""

from rowsmeet.asking import told
from rowsmeet.boxes import in_stretch, is_name, name_within
from rowsmeet.cells import telling_numbers
from rowsmeet.checks import check_book
from rowsmeet.errors import BadSale
from rowsmeet.firmness import all_lots, common_box
from rowsmeet.rules import check_rule

# Two books have up to twelve rows: one of these names is that of none of them.
LETTERS = "abcdefghijklm"


def told_of_lots(rule, book):
    """What is told of a sale to which just the rows of a lot apply: a dict of all lots of rows that meet."""
    found = {}
    for lot in all_lots(len(book)):
        common = common_box(book, lot)
        if common is not None:
            found[lot] = told(rule, book.some(lot), common.a_sale())
    return found


def applies(row, who, what, day, amount):
    """Whether the row applies to a sale of these parts."""
    box = row.box
    names_fit = name_within(who, box.who) and name_within(what, box.what)
    return names_fit and in_stretch(day, box.days) and in_stretch(amount, box.amounts)


def teller(rule, book):
    """A function that says what the book tells of a sale of the parts that it is called with."""
    found = told_of_lots(rule, book)

    def tell(who, what, day, amount):
        return found[tuple([at for at, row in enumerate(book) if applies(row, who, what, day, amount)])]

    return tell


def runs(starts, found):
    """Pairs (stretch, what was found): the longest stretches of numbers of which one thing was found.

    found has, for each of the ascending starts, what was found from it on until the next one.
    """
    kept = [at for at in range(len(starts)) if at == 0 or found[at] != found[at - 1]]
    lasts = [starts[at] - 1 for at in kept[1:]] + [None]
    return [((starts[at], last), found[at]) for at, last in zip(kept, lasts)]


def days_by(tell, rows, who, what):
    """The days of these names, by a function that says what is told, and the rows on which it hangs."""
    days = telling_numbers([row.box.days for row in rows])
    amounts = telling_numbers([row.box.amounts for row in rows])
    return runs(days, [runs(amounts, [tell(who, what, day, amount) for amount in amounts]) for day in days])


def names_with_none(names):
    """The ascending list of the names of rows, and of ""."""
    return [""] + sorted({name for name in names if name is not None})


def form_by(tell, rows):
    """A form, by a function that says what is told, and the rows on which it hangs."""
    whos = names_with_none([row.box.who for row in rows])
    whats = names_with_none([row.box.what for row in rows])
    days = {(who, what): days_by(tell, rows, who, what) for who in whos for what in whats}
    kept_whos = [who for who in whos if who == "" or any([days[(who, what)] != days[("", what)] for what in whats])]
    kept_whats = [what for what in whats if what == "" or any([days[(who, what)] != days[(who, "")] for who in whos])]
    return {(who, what): days[(who, what)] for who in kept_whos for what in kept_whats}


def form_of(rule, book):
    """The form of the book: the dict from the pairs of marked names, or "", to the days told of them."""
    check_rule(rule)
    check_book(book)
    return form_by(teller(rule, book), book.rows)


def days_told(rule, book, who, what):
    """The days told of a customer and a kind, each a name or "": the list of pairs (stretch, amounts told)."""
    check_rule(rule)
    check_book(book)
    for name in (who, what):
        if name != "" and not is_name(name):
            raise BadSale("neither a name nor the empty string")
    return days_by(teller(rule, book), book.rows, who, what)


def unlike_amounts(amounts):
    """The stretches of amounts of which two books do not tell the same."""
    return [(stretch, pair) for stretch, pair in amounts if pair[0] != pair[1]]


def unlike_days(days):
    """The stretches of days that have such amounts, with these alone."""
    left = [(stretch, unlike_amounts(amounts)) for stretch, amounts in days]
    return [(stretch, amounts) for stretch, amounts in left if amounts]


def changes(rule, one, other):
    """What two books tell of the sales of which they tell different things, as a form of pairs."""
    check_rule(rule)
    check_book(one)
    check_book(other)
    tell_one, tell_other = teller(rule, one), teller(rule, other)

    def tell(who, what, day, amount):
        return (tell_one(who, what, day, amount), tell_other(who, what, day, amount))

    form = form_by(tell, one.rows + other.rows)
    left = {names: unlike_days(form[names]) for names in form}
    return {names: left[names] for names in left if left[names]}


def tell_alike(rule, one, other):
    """Whether two books tell the same of all sales."""
    return not changes(rule, one, other)


def spare_name(names):
    """A name that is none of these."""
    return [letter for letter in LETTERS if letter not in names][0]


def first_place(form):
    """The names, the day and the amount at which a form that is not empty begins."""
    who, what = list(form)[0]
    days, amounts_of_days = form[(who, what)][0]
    amounts = amounts_of_days[0][0]
    return (who, what, days[0], amounts[0])


def parting_sale(rule, one, other):
    """A sale of which two books tell different things, None if there is none."""
    found = changes(rule, one, other)
    if not found:
        return None
    who, what, day, amount = first_place(found)
    boxes = [row.box for row in one.rows + other.rows]
    any_who = who or spare_name([box.who for box in boxes])
    any_what = what or spare_name([box.what for box in boxes])
    return (any_who, any_what, day, amount)
