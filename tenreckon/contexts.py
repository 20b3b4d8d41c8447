"""Contexts: how many figures there is room for, how they are rounded, and what happened on the way."""

from tenreckon.errors import BadContext, Trapped
from tenreckon.numbers import is_between
from tenreckon.ways import way_of

SIGNALS = ("void", "split", "burst", "sunk", "faint", "off", "cut")


class Context:
    def __init__(self, room=9, way="half even", least=None, most=60):
        self.room = bounded(room, 1, 24)
        self.rule = way_of(way).name()
        self.least = -60 if least is None else bounded(least, -60, 0)
        self.most = bounded(most, 0, 60)
        self.risen = []
        self.trapped = []

    def way(self):
        return way_of(self.rule)

    def lowest(self):
        return self.least - self.room + 1

    def flags(self):
        return list(self.risen)

    def clear(self):
        self.risen = []

    def trap(self, names):
        need_signals(names)
        self.trapped = in_order(names)

    def traps(self):
        return list(self.trapped)

    def raised(self, names):
        need_signals(names)
        self.risen = in_order(self.risen + names)
        for name in self.trapped:
            if name in names:
                raise Trapped(name)


def bounded(thing, least, most):
    if not is_between(thing, least, most):
        raise BadContext(f"not a whole number from {least} to {most}")
    return thing


def need_signals(names):
    if not isinstance(names, list):
        raise BadContext("this is no list of signals' names")
    for name in names:
        if not isinstance(name, str) or name not in SIGNALS:
            raise BadContext("this is no list of signals' names")


def in_order(names):
    return [name for name in SIGNALS if name in names]
