"""All lots of rows of a book that just apply to some sale.

What applies to a sale changes only at names of rows, and at the first number
of a stretch and the one behind its last: it is enough to look at these.
"""

from rowsmeet.boxes import in_stretch, name_within

# One more than a book has rows, so that one of these names is that of no row.
SPARE_NAMES = ("a", "b", "c", "d", "e", "f", "g")


def telling_names(names):
    """The names of rows, and one that is none of them."""
    used = sorted({name for name in names if name is not None})
    return used + [name for name in SPARE_NAMES if name not in used][:1]


def telling_numbers(stretches):
    """The numbers from which on the stretches with a number may be others than just ahead of it."""
    firsts = [first for first, last in stretches]
    behind = [last + 1 for first, last in stretches if last is not None]
    return sorted(set([0] + firsts + behind))


def name_lots(names):
    """Pairs (name, rows of it): each lot of rows that one name leaves."""
    return [(one, [at for at, name in enumerate(names) if name_within(one, name)]) for one in telling_names(names)]


def number_lots(stretches):
    """Pairs (number, rows that have it): each lot of rows that one number leaves."""
    return [
        (number, [at for at, stretch in enumerate(stretches) if in_stretch(number, stretch)])
        for number in telling_numbers(stretches)
    ]


def crossed(found, side_lots):
    """Lots with the first parts of a sale each, crossed with the lots that a further part of it leaves."""
    further = {}
    for lot, first_parts in found.items():
        for part, others in side_lots:
            further.setdefault(tuple([at for at in lot if at in others]), (*first_parts, part))
    return further


def cells(book):
    """Pairs (lot, sale): each lot of rows that just apply to some sale, and one such sale."""
    boxes = [row.box for row in book]
    found = {tuple(range(len(boxes))): ()}
    found = crossed(found, name_lots([box.who for box in boxes]))
    found = crossed(found, name_lots([box.what for box in boxes]))
    found = crossed(found, number_lots([box.days for box in boxes]))
    found = crossed(found, number_lots([box.amounts for box in boxes]))
    return list(found.items())
