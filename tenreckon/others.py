"""Numbers at another power, to whole ones, trimmed, scaled, and the neighbours above and below."""

from tenreckon.exact import Ratio
from tenreckon.numbers import Number, end, lead_of, need_count, need_number, need_numbers, nothing, some_of_kind
from tenreckon.settling import (
    finest_power, is_beyond, neighbour, nines, nought, rounded, settled, signals_of_lead, signals_of_rest, void,
    within_room)
from tenreckon.wholes import ten_to

BEYOND_ALL_POWERS = 1000


def same_power(context, one, other):
    need_numbers([one, other])
    if some_of_kind([one, other], "none"):
        return nothing()
    if some_of_kind([one, other], "end"):
        return one if one.kind == other.kind else void(context)
    if other.power < context.lowest() or other.power > context.most:
        return void(context)
    return moved(context, one, other.power)


def moved(context, one, power):
    pair = parts_at(one, power)
    number = Number("plain", one.sign, neighbour(context, one.sign, pair), power)
    if number.figures >= ten_to(context.room) or is_beyond(context, number):
        return void(context)
    if one.figures != 0:
        context.raised(signals_of_move(context, number, pair[1], power > one.power))
    return number


def parts_at(number, power):
    # An exact value is above nought.
    return (0, 0) if number.figures == 0 else Ratio(number.figures, 1, number.power).at(power)


def signals_of_move(context, number, part, is_cut):
    names = signals_of_rest(part, is_cut)
    if number.figures == 0:
        return names
    return names + signals_of_lead(context, lead_of(number), part)


def to_whole(context, one):
    need_number(one)
    if one.kind != "plain" or one.power >= 0:
        return one
    return Number("plain", one.sign, neighbour(context, one.sign, parts_at(one, 0)), 0)


def trimmed(context, one):
    need_number(one)
    if one.kind != "plain":
        return one
    if one.figures == 0:
        return nought(context, one.sign, 0)
    return settled(context, one.sign, Ratio(one.figures, 1, one.power), BEYOND_ALL_POWERS)


def scaled(context, one, count):
    need_number(one)
    need_count(count, 100)
    if one.kind != "plain":
        return one
    # Made without plain: what is not yet settled may lie beyond the bounds of numbers.
    return rounded(context, Number("plain", one.sign, one.figures, one.power + count))


def next_up(context, one):
    need_number(one)
    return stepped(context, one, 0)


def next_down(context, one):
    need_number(one)
    return stepped(context, one, 1)


def stepped(context, one, goal):
    # The goal is the sign of the end that the step goes towards.
    if one.kind == "none":
        return nothing()
    if one.kind == "end":
        return one if one.sign == goal else nines(context, one.sign)
    if one.figures == 0:
        return Number("plain", goal, 1, context.lowest())
    exact = Ratio(one.figures, 1, one.power)
    return farther(context, one.sign, exact) if one.sign == goal else nearer(context, one.sign, exact)


def farther(context, sign, exact):
    finest = finest_power(context, exact)
    number = within_room(context, sign, exact.at(finest)[0] + 1, finest)
    return end(sign) if is_beyond(context, number) else number


def nearer(context, sign, exact):
    if exact.first() > context.most:
        return nines(context, sign)
    finest = finest_power(context, exact)
    pair = exact.at(finest)
    if pair[1] != 0:
        return Number("plain", sign, pair[0], finest)
    # Below a power of ten there is room for a finer step.
    if pair[0] == ten_to(context.room - 1) and finest > context.lowest():
        return Number("plain", sign, ten_to(context.room) - 1, finest - 1)
    return Number("plain", sign, pair[0] - 1, finest)
