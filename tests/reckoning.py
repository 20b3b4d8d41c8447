"""What the document asks, reckoned anew with fractions, and a case that looks at an operation from all sides."""

import math
import typing
import unittest
from fractions import Fraction

from tenreckon.contexts import SIGNALS, Context
from tenreckon.errors import Trapped
from tenreckon.numbers import Number, end, nothing, told
from tenreckon.texts import read, written
from tenreckon.ways import WAYS

NOTHING = ("none", 0, 0, 0)


class Rules(typing.NamedTuple):
    room: int = 9
    way: str = "half even"
    least: int = -60
    most: int = 60

    @property
    def lowest(self):
        return self.least - self.room + 1

    def context(self):
        return Context(self.room, self.way, self.least, self.most)


class Surd(typing.NamedTuple):
    """The number above nought with this square."""
    square: int


SOME_RULES = [Rules(3, way, -6, 9) for way in WAYS]
SOME_RULES += [Rules(24, "up"), Rules(24, "half even"), Rules(1, "floor", 0, 0)]


def ten(power):
    return Fraction(10) ** power


def worth(number):
    size = number.figures * ten(number.power)
    return -size if number.sign == 1 else size


def sign_of(value):
    return (value > 0) - (value < 0)


def lead(value):
    if isinstance(value, Surd):
        return lead(Fraction(value.square)) // 2
    power = len(str(value.numerator)) - len(str(value.denominator))
    return power if ten(power) <= value else power - 1


def split(value, power):
    """How many whole times ten to the power, and on which side of the middle the rest lies: None of no rest."""
    if isinstance(value, Surd):
        times = Fraction(value.square) / ten(2 * power)
        whole = math.isqrt(math.floor(times))
        return whole, None if times == whole ** 2 else sign_of(times - (whole + Fraction(1, 2)) ** 2)
    times = value / ten(power)
    whole = math.floor(times)
    return whole, None if times == whole else sign_of(times - whole - Fraction(1, 2))


def away(way, sign, whole, side):
    return {
        "down": False, "up": True, "floor": sign == 1, "ceiling": sign == 0, "half up": side >= 0,
        "half down": side > 0, "half even": side > 0 or side == 0 and whole % 2 == 1, "five up": whole % 10 in (0, 5),
    }[way]


def bursting(rules, sign):
    if rules.way in ("down", "five up", ("floor", "ceiling")[sign]):
        return ("plain", sign, int("9" * rules.room), rules.most - rules.room + 1)
    return ("end", sign, 0, 0)


def in_order(names):
    return [name for name in SIGNALS if name in names]


def settle(rules, sign, value, ideal):
    first = lead(value)
    finest = max(first - rules.room + 1, rules.lowest)
    whole, side = split(value, finest)
    flags = set()
    if side is None:
        power = min([p for p in range(finest, first + 1) if split(value, p)[1] is None], key=lambda p: abs(p - ideal))
        figures = split(value, power)[0]
        flags |= {"cut"} if power > ideal else set()
    else:
        figures, power = whole + away(rules.way, sign, whole, side), finest
        if len(str(figures)) > rules.room:
            figures, power = figures // 10, power + 1
        flags |= {"off", "cut"}
    if first < rules.least:
        flags |= {"faint"} if side is None else {"faint", "sunk"}
    if figures != 0 and power + len(str(figures)) - 1 > rules.most:
        return bursting(rules, sign), ["burst", "off", "cut"]
    return ("plain", sign, figures, power), in_order(flags)


def no_worth(rules, sign, ideal):
    return ("plain", sign, 0, sorted((rules.lowest, ideal, rules.most))[1]), []


def settle_signed(rules, sign, value, ideal):
    """The sign is the one that nought has."""
    if value == 0:
        return no_worth(rules, sign, ideal)
    return settle(rules, int(value < 0), abs(value), ideal)


def things(handed):
    """A text of words as Numbers, and counts as they are."""
    words = handed.split() if isinstance(handed, str) else handed
    return [read(word) if isinstance(word, str) else word for word in words]


def as_told(wanted):
    return told(read(wanted)) if isinstance(wanted, str) else wanted


class ReckonCase(unittest.TestCase):
    def answer(self, rules, work, handed, traps=(), ahead=()):
        """What is told, or the trapped signal, and the flags behind it."""
        context = rules.context()
        context.raised(list(ahead))
        context.trap(list(traps))
        before = [told(thing) if isinstance(thing, Number) else thing for thing in handed]
        try:
            number = work(context, *handed)
            self.assertIs(type(number), Number)
            written(number)
            result = told(number)
        except Trapped as refusal:
            result = refusal.signal
        self.assertEqual([told(thing) if isinstance(thing, Number) else thing for thing in handed], before)
        self.assertEqual(context.traps(), in_order(traps))
        self.assertEqual((context.room, context.way().name(), context.least, context.most), rules)
        return result, context.flags()

    def quick(self, rules, work, handed, wanted, flags):
        self.assertEqual(self.answer(rules, work, handed), (wanted, flags), (rules, handed))

    def check(self, rules, work, handed, wanted, flags=""):
        """The answer and its flags; with flags up from ahead; with each signal, none and all trapped."""
        handed = things(handed)
        wanted = as_told(wanted)
        flags = flags.split() if isinstance(flags, str) else flags
        shown = (rules, work, [told(thing) if isinstance(thing, Number) else thing for thing in handed])
        self.assertEqual(self.answer(rules, work, handed), (wanted, flags), shown)
        others = [name for name in SIGNALS if name not in flags]
        self.assertEqual(self.answer(rules, work, handed, others, others), (wanted, list(SIGNALS)), shown)
        for number, name in enumerate(flags):
            self.assertEqual(self.answer(rules, work, handed, [name]), (name, flags), shown)
            self.assertEqual(self.answer(rules, work, handed, others + flags[number:]), (name, flags), shown)
            self.assertEqual(self.answer(rules, work, handed, [name], others), (name, list(SIGNALS)), shown)

    def each_way(self, rules, work, handed, wanted, flags=""):
        """The wanted ones in the order of the ways, by one text."""
        for way, text in zip(WAYS, wanted.split(), strict=True):
            self.check(rules._replace(way=way), work, handed, text, flags)

    def refused(self, error, work, *handed):
        """Refused by the error and none under it, with no flag and no trap changed."""
        context = Context()
        context.raised(["faint"])
        context.trap(list(SIGNALS))
        with self.assertRaises(error) as caught:
            work(context, *handed)
        self.assertIs(type(caught.exception), error)
        self.assertEqual(context.flags(), ["faint"])
        self.assertEqual(context.traps(), list(SIGNALS))


def all_kinds():
    """Numbers of every kind and sign."""
    texts = "0 -0 0e-9 -0e9 1 -1 1.0 1e-70 -1e70 123456789012 -0.5"
    return [read(text) for text in texts.split()] + [end(0), end(1), nothing()]
