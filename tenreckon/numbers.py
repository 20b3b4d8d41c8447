"""Numbers: plain ones, ends and nothing-numbers."""

from tenreckon.errors import BadNumber


class Number:
    def __init__(self, kind, sign, figures, power):
        self.kind = kind
        self.sign = sign
        self.figures = figures
        self.power = power


def plain(sign, figures, power):
    need_between(sign, 0, 1)
    need_between(figures, 0, 10 ** 60 - 1)
    need_between(power, -200, 200)
    return Number("plain", sign, figures, power)


def end(sign):
    need_between(sign, 0, 1)
    return Number("end", sign, 0, 0)


def nothing():
    return Number("none", 0, 0, 0)


def told(number):
    need_number(number)
    return (number.kind, number.sign, number.figures, number.power)


def lead_of(number):
    return number.power + len(str(number.figures)) - 1


def need_number(thing):
    if not isinstance(thing, Number):
        raise BadNumber("this is no Number")
    return thing


def is_whole(thing):
    # Python counts True and False among its whole numbers; here they are none.
    return isinstance(thing, int) and not isinstance(thing, bool)


def need_between(thing, least, most):
    # The error doesn't show the thing: Python refuses to write out very long whole numbers.
    if not is_whole(thing) or thing < least or thing > most:
        raise BadNumber(f"not a whole number from {least} to {most}")
