"""Names, sales, stretches and boxes, and the boxes that several ones have in common."""

from rowsmeet.errors import BadBox
from rowsmeet.kinds import is_count, is_list, is_number


def is_name(thing):
    """Whether the value is a name: a string of 1 to 8 letters from a to z."""
    return isinstance(thing, str) and 1 <= len(thing) <= 8 and all(["a" <= sign <= "z" for sign in thing])


def is_sale(thing):
    """Whether the value is a sale: (who, what, day, amount)."""
    if not isinstance(thing, tuple) or len(thing) != 4:
        return False
    who, what, day, amount = thing
    return is_name(who) and is_name(what) and is_count(day) and is_count(amount)


def is_stretch(thing):
    """Whether the value is a stretch: (first, last), last being None if it has no end."""
    if not isinstance(thing, tuple) or len(thing) != 2:
        return False
    first, last = thing
    return is_count(first) and (last is None or (is_number(last) and last >= first))


def is_name_or_all(thing):
    """Whether the value stands for one name, or for all of them."""
    return thing is None or is_name(thing)


def name_within(one, other):
    """Whether one name or all is within another name or all."""
    return other is None or one == other


def end_within(one, other):
    """Whether the end of one stretch is not behind the end of another one."""
    return other is None or (one is not None and one <= other)


def stretch_within(one, other):
    """Whether all numbers of one stretch are in another one."""
    return other[0] <= one[0] and end_within(one[1], other[1])


def in_stretch(number, stretch):
    """Whether the number is one of the stretch."""
    return stretch_within((number, number), stretch)


def names_meet(one, other):
    """Whether some name is in both of two names or all."""
    return name_within(one, other) or name_within(other, one)


def common_name(one, other):
    """What two names that meet have in common: a name, or None for all."""
    return other if one is None else one


def common_stretch(one, other):
    """The stretch of the numbers that are in both stretches, None if there are none."""
    first = max(one[0], other[0])
    last = one[1] if end_within(one[1], other[1]) else other[1]
    return (first, last) if end_within(first, last) else None


class Box:
    """The sales of one customer or all, of one kind of goods or all, in two stretches."""

    def __init__(self, who=None, what=None, days=(0, None), amounts=(0, None)):
        if not is_name_or_all(who):
            raise BadBox("who")
        if not is_name_or_all(what):
            raise BadBox("what")
        if not is_stretch(days):
            raise BadBox("days")
        if not is_stretch(amounts):
            raise BadBox("amounts")
        self.sides = (who, what, days, amounts)

    @property
    def who(self):
        """The name of the customer, None for all."""
        return self.sides[0]

    @property
    def what(self):
        """The name of the kind of goods, None for all."""
        return self.sides[1]

    @property
    def days(self):
        """The stretch of days."""
        return self.sides[2]

    @property
    def amounts(self):
        """The stretch of amounts."""
        return self.sides[3]

    def __eq__(self, other):
        return isinstance(other, Box) and self.sides == other.sides

    def __contains__(self, x):
        if not is_sale(x):
            return False
        who, what, day, amount = x
        names_fit = name_within(who, self.who) and name_within(what, self.what)
        return names_fit and in_stretch(day, self.days) and in_stretch(amount, self.amounts)

    def __and__(self, other):
        if not isinstance(other, Box):
            raise TypeError("a box can only be joined with a box")
        days = common_stretch(self.days, other.days)
        amounts = common_stretch(self.amounts, other.amounts)
        if days is None or amounts is None:
            return None
        if not names_meet(self.who, other.who) or not names_meet(self.what, other.what):
            return None
        return Box(common_name(self.who, other.who), common_name(self.what, other.what), days, amounts)

    def is_within(self, other):
        """Whether each sale in this box is in the other one."""
        if not isinstance(other, Box):
            raise BadBox("other")
        # No part of a box is empty, so the boxes compare as their parts do.
        names_fit = name_within(self.who, other.who) and name_within(self.what, other.what)
        return names_fit and stretch_within(self.days, other.days) and stretch_within(self.amounts, other.amounts)

    def a_sale(self):
        """A sale in the box: the earliest and smallest one, of any names where all will do."""
        return (common_name(self.who, "a"), common_name(self.what, "a"), self.days[0], self.amounts[0])


def meeting(boxes):
    """The box of the sales that are in all boxes of a list, None if they do not meet."""
    if not is_list(boxes) or not all([isinstance(box, Box) for box in boxes]):
        raise BadBox("boxes")
    common = Box()
    for box in boxes:
        common = common & box
        if common is None:
            return None
    return common
