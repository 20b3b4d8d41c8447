"""The eight ways of rounding."""

from tenreckon.errors import BadContext

WAYS = ("down", "up", "floor", "ceiling", "half up", "half down", "half even", "five up")


class Way:
    def name(self):
        raise NotImplementedError("each way has a name of its own")

    def goes_up(self, sign, last, part):
        raise NotImplementedError("each way goes up in its own cases")

    def to_end(self, sign):
        raise NotImplementedError("each way goes to an end in its own cases")


class Down(Way):
    def name(self):
        return "down"

    def goes_up(self, sign, last, part):
        return False

    def to_end(self, sign):
        return False


class Up(Way):
    def name(self):
        return "up"

    def goes_up(self, sign, last, part):
        return True

    def to_end(self, sign):
        return True


class Floor(Way):
    def name(self):
        return "floor"

    def goes_up(self, sign, last, part):
        return sign == 1

    def to_end(self, sign):
        return sign == 1


class Ceiling(Way):
    def name(self):
        return "ceiling"

    def goes_up(self, sign, last, part):
        return sign == 0

    def to_end(self, sign):
        return sign == 0


class HalfUp(Way):
    def name(self):
        return "half up"

    def goes_up(self, sign, last, part):
        return part >= 2

    def to_end(self, sign):
        return True


class HalfDown(Way):
    def name(self):
        return "half down"

    def goes_up(self, sign, last, part):
        return part == 3

    def to_end(self, sign):
        return True


class HalfEven(Way):
    def name(self):
        return "half even"

    def goes_up(self, sign, last, part):
        return part == 3 or (part == 2 and last % 2 == 1)

    def to_end(self, sign):
        return True


class FiveUp(Way):
    def name(self):
        return "five up"

    def goes_up(self, sign, last, part):
        return last in (0, 5)

    def to_end(self, sign):
        return False


def way_of(name):
    if not isinstance(name, str):
        raise BadContext("this is no name of a way")
    if name == "down":
        return Down()
    if name == "up":
        return Up()
    if name == "floor":
        return Floor()
    if name == "ceiling":
        return Ceiling()
    if name == "half up":
        return HalfUp()
    if name == "half down":
        return HalfDown()
    if name == "half even":
        return HalfEven()
    if name == "five up":
        return FiveUp()
    raise BadContext("this is no name of a way")
