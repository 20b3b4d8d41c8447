"""Exact values above nought, looked at by any power of ten."""

from tenreckon.wholes import ten_to


class Exact:
    def first(self):
        raise NotImplementedError("each exact value has a lead of its own")

    def at(self, power):
        raise NotImplementedError("each exact value is split in its own way")


class Ratio(Exact):
    def __init__(self, top, bottom, power=0):
        self.top = top
        self.bottom = bottom
        self.power = power

    def first(self):
        guess = whole_lead(self.top) - whole_lead(self.bottom) + self.power
        return guess if self.at(guess)[0] > 0 else guess - 1

    def at(self, power):
        shift = self.power - power
        top = self.top * ten_to(max(shift, 0))
        bottom = self.bottom * ten_to(max(-shift, 0))
        whole = top // bottom
        return (whole, part_of(2 * (top - whole * bottom), bottom))


class Root(Exact):
    def __init__(self, top, power=0):
        self.top = top
        self.power = power

    def first(self):
        return (whole_lead(self.top) + self.power) // 2

    def at(self, power):
        shift = self.power - 2 * power
        top = self.top * ten_to(max(shift, 0))
        bottom = ten_to(max(-shift, 0))
        whole = whole_root(top // bottom)
        if whole * whole * bottom == top:
            return (whole, 0)
        # The middle's square, four times to keep it whole.
        return (whole, part_of(4 * top, (2 * whole + 1) * (2 * whole + 1) * bottom))


def part_of(size, middle):
    if size == 0:
        return 0
    if size < middle:
        return 1
    return 2 if size == middle else 3


def whole_lead(whole):
    # Not by the length of its text: Python refuses to write out whole numbers of some thousand figures.
    # The first guess is never too great, for the written fraction is below the logarithm of two.
    lead = (whole.bit_length() - 1) * 301029995 // 10 ** 9
    beyond = ten_to(lead + 1)
    while beyond <= whole:
        lead += 1
        beyond = beyond * 10
    return lead


def whole_root(whole):
    if whole == 0:
        return 0
    # Newton's steps come down to the root only from a guess that is not below it.
    guess = ten_to(whole_lead(whole) // 2 + 1)
    better = (guess + whole // guess) // 2
    while better < guess:
        guess = better
        better = (guess + whole // guess) // 2
    return guess
