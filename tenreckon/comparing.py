"""Numbers compared by their worths."""

from tenreckon.numbers import need_numbers, nothing, some_of_kind, whole_at
from tenreckon.settling import rounded


def compared(one, other):
    need_numbers([one, other])
    if some_of_kind([one, other], "none"):
        return None
    if some_of_kind([one, other], "end"):
        return order_of(side_of(one), side_of(other))
    low = min(one.power, other.power)
    return order_of(whole_at(one, low), whole_at(other, low))


def lesser(context, one, other):
    order = compared(one, other)
    if order is None:
        return nothing()
    return rounded(context, one if order <= 0 else other)


def greater(context, one, other):
    order = compared(one, other)
    if order is None:
        return nothing()
    return rounded(context, one if order >= 0 else other)


def side_of(number):
    if number.kind == "plain":
        return 0
    return -1 if number.sign == 1 else 1


def order_of(one, other):
    if one == other:
        return 0
    return -1 if one < other else 1
