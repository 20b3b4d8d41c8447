"""Sums, differences and products."""

from tenreckon.exact import Ratio
from tenreckon.numbers import Number, end, need_numbers, nothing, some_of_kind, unlike_sign, whole_at
from tenreckon.settling import nought, rounded, settled, void


def plus(context, one, other):
    need_numbers([one, other])
    if some_of_kind([one, other], "none"):
        return nothing()
    return added(context, one, other)


def minus(context, one, other):
    need_numbers([one, other])
    if some_of_kind([one, other], "none"):
        return nothing()
    return added(context, one, Number(other.kind, 1 - other.sign, other.figures, other.power))


def times(context, one, other):
    need_numbers([one, other])
    if some_of_kind([one, other], "none"):
        return nothing()
    if is_end_by_nought(one, other):
        return void(context)
    return rounded(context, product(one, other))


def fused(context, one, other, third):
    need_numbers([one, other, third])
    if some_of_kind([one, other, third], "none"):
        return nothing()
    if is_end_by_nought(one, other):
        return void(context)
    return added(context, product(one, other), third)


def is_nought(number):
    return number.kind == "plain" and number.figures == 0


def is_end_by_nought(one, other):
    return some_of_kind([one, other], "end") and (is_nought(one) or is_nought(other))


def product(one, other):
    sign = unlike_sign(one, other)
    if some_of_kind([one, other], "end"):
        return end(sign)
    # Made without plain: what is not yet settled may lie beyond the bounds of numbers.
    return Number("plain", sign, one.figures * other.figures, one.power + other.power)


def added(context, one, other):
    if some_of_kind([one, other], "end"):
        return end_added(context, one, other)
    low = min(one.power, other.power)
    total = whole_at(one, low) + whole_at(other, low)
    if total == 0:
        return nought(context, sign_of_no_sum(context, one, other), low)
    return settled(context, 1 if total < 0 else 0, Ratio(abs(total), 1, low), low)


def end_added(context, one, other):
    if one.kind == other.kind and one.sign != other.sign:
        return void(context)
    return one if one.kind == "end" else other


def sign_of_no_sum(context, one, other):
    if one.sign == other.sign:
        return one.sign
    return 1 if context.way().name() == "floor" else 0
