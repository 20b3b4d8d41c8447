"""Quotients, their whole parts and the rests."""

from tenreckon.exact import Ratio
from tenreckon.numbers import Number, end, need_numbers, nothing, some_of_kind, unlike_sign, whole_at
from tenreckon.settling import nought, rounded, settled, split_to_end, void
from tenreckon.wholes import ten_to


def over(context, one, other):
    need_numbers([one, other])
    if some_of_kind([one, other], "none"):
        return nothing()
    if not has_plain_quotient(one, other):
        return odd_quotient(context, one, other, context.lowest())
    sign = unlike_sign(one, other)
    ideal = one.power - other.power
    if one.figures == 0:
        return nought(context, sign, ideal)
    return settled(context, sign, Ratio(one.figures, other.figures, ideal), ideal)


def whole_over(context, one, other):
    need_numbers([one, other])
    if some_of_kind([one, other], "none"):
        return nothing()
    if not has_plain_quotient(one, other):
        return odd_quotient(context, one, other, 0)
    whole = whole_part(one, other)
    if whole >= ten_to(context.room):
        return void(context)
    sign = unlike_sign(one, other)
    ideal = max(one.power - other.power, 0)
    if whole == 0:
        return nought(context, sign, ideal)
    return settled(context, sign, Ratio(whole, 1), ideal)


def rest_of(context, one, other):
    need_numbers([one, other])
    if some_of_kind([one, other], "none"):
        return nothing()
    if one.kind == "end" or (other.kind == "plain" and other.figures == 0):
        return void(context)
    if other.kind == "end":
        return rounded(context, one)
    whole = whole_part(one, other)
    if whole >= ten_to(context.room):
        return void(context)
    low = min(one.power, other.power)
    left = abs(whole_at(one, low)) - whole * abs(whole_at(other, low))
    # Made without plain: what is not yet settled may have more figures than numbers have.
    return rounded(context, Number("plain", one.sign, left, low))


def has_plain_quotient(one, other):
    return one.kind == "plain" and other.kind == "plain" and other.figures != 0


def odd_quotient(context, one, other, ideal):
    sign = unlike_sign(one, other)
    if one.kind == "end":
        return void(context) if other.kind == "end" else end(sign)
    if other.kind == "end":
        return nought(context, sign, ideal)
    return void(context) if one.figures == 0 else split_to_end(context, sign)


def whole_part(one, other):
    low = min(one.power, other.power)
    return abs(whole_at(one, low)) // abs(whole_at(other, low))
