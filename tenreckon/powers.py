"""Roots and powers."""

from tenreckon.exact import Ratio, Root
from tenreckon.numbers import end, need_count, need_number, nothing, plain
from tenreckon.settling import nought, settled, split_to_end, void
from tenreckon.wholes import product_of


def root(context, one):
    need_number(one)
    if one.kind == "none":
        return nothing()
    if one.kind == "plain" and one.figures == 0:
        return nought(context, one.sign, one.power // 2)
    if one.sign == 1:
        return void(context)
    if one.kind == "end":
        return one
    return settled(context, 0, Root(one.figures, one.power), one.power // 2)


def to_power(context, one, count):
    need_number(one)
    need_count(count, 20)
    if one.kind == "none":
        return nothing()
    sign = one.sign if count % 2 == 1 else 0
    if one.kind == "end":
        return power_of_end(context, sign, count)
    if one.figures == 0:
        return power_of_nought(context, sign, one.power, count)
    ideal = count * one.power
    product = product_of(one.figures, abs(count))
    exact = Ratio(1, product, ideal) if count < 0 else Ratio(product, 1, ideal)
    return settled(context, sign, exact, ideal)


def power_of_end(context, sign, count):
    if count == 0:
        return plain(0, 1, 0)
    return end(sign) if count > 0 else nought(context, sign, context.lowest())


def power_of_nought(context, sign, power, count):
    if count == 0:
        return void(context)
    return nought(context, sign, count * power) if count > 0 else split_to_end(context, sign)
