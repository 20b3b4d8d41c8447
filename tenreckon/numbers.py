"""Numbers: plain ones, ends and nothing-numbers."""

from tenreckon.errors import BadCount, BadNumber
from tenreckon.wholes import ten_to


class Number:
    def __init__(self, kind, sign, figures, power):
        self.kind = kind
        self.sign = sign
        self.figures = figures
        self.power = power


def plain(sign, figures, power):
    need_between(sign, 0, 1)
    need_between(figures, 0, 10 ** 60 - 1)
    need_between(power, -200, 200)
    return Number("plain", sign, figures, power)


def end(sign):
    need_between(sign, 0, 1)
    return Number("end", sign, 0, 0)


def nothing():
    return Number("none", 0, 0, 0)


def told(number):
    need_number(number)
    return (number.kind, number.sign, number.figures, number.power)


def lead_of(number):
    return number.power + len(str(number.figures)) - 1


def need_number(thing):
    if not isinstance(thing, Number):
        raise BadNumber("this is no Number")
    return thing


def need_numbers(things):
    for thing in things:
        need_number(thing)


def some_of_kind(numbers, kind):
    return any([number.kind == kind for number in numbers])


def unlike_sign(one, other):
    return 1 if one.sign != other.sign else 0


def whole_at(number, power):
    # Only for powers that are not above the number's own: there it is a whole number of times.
    size = number.figures * ten_to(number.power - power)
    return -size if number.sign == 1 else size


def is_between(thing, least, most):
    # Python counts True and False among its whole numbers; here they are none.
    if not isinstance(thing, int) or isinstance(thing, bool):
        return False
    return thing >= least and thing <= most


def need_between(thing, least, most):
    # The error doesn't show the thing: Python refuses to write out very long whole numbers.
    if not is_between(thing, least, most):
        raise BadNumber(f"not a whole number from {least} to {most}")


def need_count(thing, most):
    if not is_between(thing, -most, most):
        raise BadCount(f"not a whole number from -{most} to {most}")
