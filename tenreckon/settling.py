"""Settling: exact values told as numbers that a context has room for."""

from tenreckon.exact import Ratio
from tenreckon.numbers import Number, end, lead_of, need_number, nothing
from tenreckon.wholes import ten_to


def settled(context, sign, exact, ideal):
    finest = finest_power(context, exact)
    pair = exact.at(finest)
    if pair[1] == 0:
        number = nearest_to(ideal, sign, pair[0], finest)
    else:
        number = within_room(context, sign, neighbour(context, sign, pair), finest)
    if is_beyond(context, number):
        context.raised(["burst", "off", "cut"])
        return burst(context, sign)
    names = signals_of_rest(pair[1], number.power > ideal)
    context.raised(names + signals_of_lead(context, exact.first(), pair[1]))
    return number


def finest_power(context, exact):
    return max(exact.first() - context.room + 1, context.lowest())


def nearest_to(ideal, sign, figures, power):
    while power < ideal and figures % 10 == 0:
        figures = figures // 10
        power = power + 1
    return Number("plain", sign, figures, power)


def neighbour(context, sign, pair):
    if pair[1] != 0 and context.way().goes_up(sign, pair[0] % 10, pair[1]):
        return pair[0] + 1
    return pair[0]


def within_room(context, sign, figures, power):
    # Going up makes one figure more only as a one with noughts behind it.
    if figures == ten_to(context.room):
        return Number("plain", sign, figures // 10, power + 1)
    return Number("plain", sign, figures, power)


def is_beyond(context, number):
    return number.figures != 0 and lead_of(number) > context.most


def burst(context, sign):
    return end(sign) if context.way().to_end(sign) else nines(context, sign)


def nines(context, sign):
    return Number("plain", sign, ten_to(context.room) - 1, context.most - context.room + 1)


def signals_of_rest(part, is_cut):
    if part != 0:
        return ["off", "cut"]
    return ["cut"] if is_cut else []


def signals_of_lead(context, lead, part):
    if lead >= context.least:
        return []
    return ["faint"] if part == 0 else ["sunk", "faint"]


def nought(context, sign, ideal):
    return Number("plain", sign, 0, min(max(ideal, context.lowest()), context.most))


def void(context):
    context.raised(["void"])
    return nothing()


def split_to_end(context, sign):
    context.raised(["split"])
    return end(sign)


def rounded(context, number):
    need_number(number)
    if number.kind != "plain":
        return number
    if number.figures == 0:
        return nought(context, number.sign, number.power)
    return settled(context, number.sign, Ratio(number.figures, 1, number.power), number.power)
