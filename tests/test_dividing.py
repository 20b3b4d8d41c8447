import itertools
import math
from unittest import main

from reckoning import NOTHING, SOME_RULES, ReckonCase, Rules, all_kinds, settle_signed, worth
from strange import no_numbers
from tenreckon.dividing import over, rest_of, whole_over
from tenreckon.errors import BadNumber
from tenreckon.numbers import Number, end, nothing, plain
from tenreckon.texts import read
from tenreckon.ways import WAYS

SOME = [read(text) for text in """
1 -1 1.0 2 -3 7 8 0.5 9.99 -12345 1000 10e2 1e3 -0.00012345 1e10 99999 333333e-3 1e200 -1e-200 7e60 5e-61 1e-5 6 -6.0
999999999999999999999999999999999999999999999999999999999999 -123456789012345678901234e-90 12e20 -30e-20 998 1e2 99.9
""".split()]
NOUGHTS = [read(text) for text in "0 -0 0.00 -0e5 0e-200 0e200".split()]


def unlike(one, other):
    return int(one.sign != other.sign)


def signed(sign, size):
    return -size if sign == 1 else size


def whole_part(one, other):
    return math.floor(abs(worth(one)) / abs(worth(other)))


class OverTest(ReckonCase):
    def wanted(self, rules, one, other):
        return settle_signed(rules, unlike(one, other), worth(one) / worth(other), one.power - other.power)

    def test_against_fractions(self):
        for rules, one, other in itertools.product(SOME_RULES, SOME + NOUGHTS, SOME):
            self.quick(rules, over, [one, other], *self.wanted(rules, one, other))

    def test_trapped(self):
        for one, other in itertools.product(SOME[:12] + NOUGHTS, SOME[:12]):
            self.check(SOME_RULES[1], over, [one, other], *self.wanted(SOME_RULES[1], one, other))

    def test_that_end(self):
        rules = Rules(4, least=-9, most=9)
        self.check(rules, over, "1 8", "0.125")
        self.check(rules, over, "-1 8", "-0.125")
        self.check(rules, over, "6 2", "3")
        self.check(rules, over, "6.0 -2", "-3.0")
        self.check(rules, over, "6 2.0", "3")
        self.check(rules, over, "60 2.0", "3e+1")
        self.check(rules, over, "600 2e1", "30.0")
        self.check(rules, over, "6e5 2e1", "3e+4")
        self.check(rules, over, "1e3 1e5", "0.01")
        self.check(rules, over, "2.400 -2", "-1.200")
        self.check(rules, over, "24000 2", "1.200e+4", "cut")
        self.check(rules, over, "1 16", "0.0625")
        self.check(rules, over, "1 32", "0.03125")
        self.check(rules, over, "1e9 0.1", "end", "burst off cut")
        self.check(rules, over, "1e-9 2", "5e-10", "faint")

    def test_that_dont_end(self):
        self.each_way(Rules(3), over, "1 3", "0.333 0.334 0.333 0.334 0.333 0.333 0.333 0.333", "off cut")
        self.each_way(Rules(3), over, "-2 3", "-0.666 -0.667 -0.667 -0.666 -0.667 -0.667 -0.667 -0.666", "off cut")
        self.each_way(Rules(2), over, "1 8", "0.12 0.13 0.12 0.13 0.13 0.12 0.12 0.12", "off cut")
        self.each_way(Rules(2), over, "3 -8", "-0.37 -0.38 -0.38 -0.37 -0.38 -0.37 -0.38 -0.37", "off cut")
        self.each_way(Rules(2), over, "1 1.9801", "0.50 0.51 0.50 0.51 0.51 0.51 0.51 0.51", "off cut")
        self.each_way(Rules(1), over, "99 100", "0.9 1 0.9 1 1 1 1 0.9", "off cut")

    def test_by_nought(self):
        rules = Rules(2, "down", 0, 0)
        for work in (over, whole_over):
            for text, other in itertools.product(("1", "-1", "1e-200", "-9e200"), ("0", "-0", "0e9")):
                negative = text.startswith("-") != other.startswith("-")
                self.check(rules, work, [text, other], "-end" if negative else "end", "split")
            for text, other in itertools.product(("0", "-0", "0.00"), ("0", "-0", "0e9")):
                self.check(rules, work, [text, other], "none", "void")

    def test_noughts(self):
        rules = Rules(4, least=-9, most=9)
        for text, other in itertools.product(("0", "-0"), ("7", "-7")):
            negative = text.startswith("-") != other.startswith("-")
            self.check(rules, over, [text, other], "-0" if negative else "0")
        self.check(rules, over, "0.00 7", "0.00")
        self.check(rules, over, "0 7.0", "0e+1")
        self.check(rules, over, "0e-99 -7", "-0e-12")
        self.check(rules, over, "-0e99 7", "-0e+9")

    def test_ends(self):
        rules = Rules(3, "floor", -4, 4)
        for text, other in itertools.product(("end", "-end"), ("end", "-end")):
            self.check(rules, over, [text, other], "none", "void")
            self.check(rules, whole_over, [text, other], "none", "void")
        for text, other in itertools.product(("end", "-end"), ("0", "-0", "7", "-7", "1e200")):
            negative = text.startswith("-") != other.startswith("-")
            self.check(rules, over, [text, other], "-end" if negative else "end")
            self.check(rules, whole_over, [text, other], "-end" if negative else "end")
            self.check(rules, over, [other, text], "-0.000000" if negative else "0.000000")
            self.check(rules, whole_over, [other, text], "-0" if negative else "0")


class WholeOverTest(ReckonCase):
    def wanted(self, rules, one, other):
        whole = whole_part(one, other)
        if len(str(whole)) > rules.room:
            return NOTHING, ["void"]
        sign = unlike(one, other)
        return settle_signed(rules, sign, signed(sign, whole), max(one.power - other.power, 0))

    def test_against_fractions(self):
        for rules, one, other in itertools.product(SOME_RULES, SOME + NOUGHTS, SOME):
            self.quick(rules, whole_over, [one, other], *self.wanted(rules, one, other))

    def test_by_hand(self):
        rules = Rules(4, least=-9, most=9)
        self.check(rules, whole_over, "7 2", "3")
        self.check(rules, whole_over, "-7 2", "-3")
        self.check(rules, whole_over, "7 -2", "-3")
        self.check(rules, whole_over, "-7 -2", "3")
        self.check(rules, whole_over, "8 2", "4")
        self.check(rules, whole_over, "7.99 2", "3")
        self.check(rules, whole_over, "7 0.2", "35")
        self.check(rules, whole_over, "7 0.25", "28")
        self.check(rules, whole_over, "70 0.25", "2.8e+2")
        self.check(rules, whole_over, "1.000 0.001", "1000")

    def test_towards_nought_whatever_the_way(self):
        for way in WAYS:
            self.check(Rules(2, way), whole_over, "199 10", "19")
            self.check(Rules(2, way), whole_over, "-199 10", "-19")

    def test_a_whole_part_of_nought(self):
        rules = Rules(4, least=-9, most=9)
        self.check(rules, whole_over, "1 2", "0")
        self.check(rules, whole_over, "-1 2", "-0")
        self.check(rules, whole_over, "-1 -2", "0")
        self.check(rules, whole_over, "0.001 2", "0")
        self.check(rules, whole_over, "1e3 2000", "0e+3")
        self.check(rules, whole_over, "-1e3 200000e-2", "-0e+5")
        self.check(rules, whole_over, "1e-200 1e200", "0")
        self.check(rules, whole_over, "0 7", "0")
        self.check(rules, whole_over, "0e-5 -7", "-0")
        self.check(rules, whole_over, "0e5 7", "0e+5")
        self.check(rules, whole_over, "0e50 7", "0e+9")

    def test_as_many_figures_as_room_and_one_more(self):
        for room in (1, 2, 9, 24):
            rules = Rules(room)
            nines = 10 ** room - 1
            self.check(rules, whole_over, [plain(0, nines, 0), plain(0, 1, 0)], ("plain", 0, nines, 0))
            self.check(rules, whole_over, [plain(1, 10 * nines + 9, -1), plain(0, 1, 0)], ("plain", 1, nines, 0))
            for way in WAYS:
                for one in (plain(0, nines + 1, 0), plain(1, 1, room), plain(0, 10 * (nines + 1), -1)):
                    self.check(rules._replace(way=way), whole_over, [one, plain(0, 1, 0)], NOTHING, "void")
                    self.check(rules._replace(way=way), rest_of, [one, plain(0, 1, 0)], NOTHING, "void")

    def test_noughts_at_its_end_count(self):
        self.check(Rules(3), whole_over, "1e2 1", "1e+2")
        self.check(Rules(3), whole_over, "100 1", "100")
        self.check(Rules(3), whole_over, "1e3 1", "none", "void")
        self.check(Rules(3), whole_over, "1000 1", "none", "void")

    def test_the_ideal(self):
        rules = Rules(6)
        self.check(rules, whole_over, "6e5 2e1", "3e+4")
        self.check(rules, whole_over, "60e4 2e1", "3.0e+4")
        self.check(rules, whole_over, "6e5 7e1", "8571")
        self.check(rules, whole_over, "6e5 8e1", "7.5e+3")
        self.check(rules, whole_over, "6e1 2e5", "0")
        self.check(rules, whole_over, "60e4 2e5", "3")
        self.check(rules, whole_over, "600.00 2", "300")

    def test_bursting(self):
        self.each_way(Rules(5, most=3), whole_over, "50000 2", "9999.9 end 9999.9 end end end end 9999.9",
                      "burst off cut")
        self.each_way(Rules(5, most=3), whole_over, "-50000 2", "-9999.9 -end -end -9999.9 -end -end -end -9999.9",
                      "burst off cut")
        self.check(Rules(5, most=3), whole_over, "200000 2", "none", "void")


class RestTest(ReckonCase):
    def wanted(self, rules, one, other):
        whole = whole_part(one, other)
        if len(str(whole)) > rules.room:
            return NOTHING, ["void"]
        left = abs(worth(one)) - abs(worth(other)) * whole
        return settle_signed(rules, one.sign, signed(one.sign, left), min(one.power, other.power))

    def test_against_fractions(self):
        for rules, one, other in itertools.product(SOME_RULES, SOME + NOUGHTS, SOME):
            self.quick(rules, rest_of, [one, other], *self.wanted(rules, one, other))

    def test_by_hand(self):
        rules = Rules(4, least=-9, most=9)
        self.check(rules, rest_of, "7 2", "1")
        self.check(rules, rest_of, "-7 2", "-1")
        self.check(rules, rest_of, "7 -2", "1")
        self.check(rules, rest_of, "-7 -2", "-1")
        self.check(rules, rest_of, "7.5 2", "1.5")
        self.check(rules, rest_of, "7 2.00", "1.00")
        self.check(rules, rest_of, "1 3e5", "1")
        self.check(rules, rest_of, "12345 1e5", "1.234e+4", "off cut")
        self.check(rules, rest_of, "20000 1e5", "2.000e+4", "cut")
        self.check(rules, rest_of, "1e-10 1", "1e-10", "faint")

    def test_nought_with_the_first_ones_sign(self):
        rules = Rules(4, least=-9, most=9)
        for way in WAYS:
            self.check(rules._replace(way=way), rest_of, "6 2", "0")
            self.check(rules._replace(way=way), rest_of, "-6 2", "-0")
            self.check(rules._replace(way=way), rest_of, "6 -2", "0")
            self.check(rules._replace(way=way), rest_of, "-6 -2.0", "-0.0")
            self.check(rules._replace(way=way), rest_of, "-0 5", "-0")
            self.check(rules._replace(way=way), rest_of, "0e7 5e3", "0e+3")
            self.check(rules._replace(way=way), rest_of, "6e30 2e28", "0e+9")

    def test_void(self):
        rules = Rules(4)
        for one, other in itertools.product(("end", "-end"), ("end", "-end", "0", "-0", "7", "-7")):
            self.check(rules, rest_of, [one, other], "none", "void")
        for one, other in itertools.product(("0", "-0", "7", "-1e200"), ("0", "-0", "0e9")):
            self.check(rules, rest_of, [one, other], "none", "void")
        self.check(rules, rest_of, "10000 1", "none", "void")
        self.check(rules, rest_of, "9999 1", "0")
        self.check(rules, rest_of, "-9999.9 1", "-0.9")

    def test_by_an_end(self):
        rules = Rules(3, least=-4, most=4)
        for other in ("end", "-end"):
            self.check(rules, rest_of, ["7.50", other], "7.50")
            self.check(rules, rest_of, ["-7", other], "-7")
            self.check(rules, rest_of, ["12345", other], "1.23e+4", "off cut")
            self.check(rules, rest_of, ["-1e5", other], "-end", "burst off cut")
            self.check(rules, rest_of, ["1e-5", other], "0.00001", "faint")
            self.check(rules, rest_of, ["0e9", other], "0e+4")
            self.check(rules, rest_of, ["-0", other], "-0")

    def test_powers_far_apart(self):
        for rules in (Rules(), Rules(24, "up")):
            for one, other in itertools.product(("1e200", "-7e200", "1e-200", "-7e-200"), repeat=2):
                one, other = read(one), read(other)
                self.check(rules, rest_of, [one, other], *self.wanted(rules, one, other))
        many = plain(0, 10 ** 60 - 1, 200)
        little = plain(1, 10 ** 59 + 7, -200)
        self.check(Rules(), rest_of, [many, little], NOTHING, "void")
        self.check(Rules(), whole_over, [many, little], NOTHING, "void")
        self.check(Rules(3, "up"), rest_of, [little, many], "-1e-62", "sunk faint off cut")
        self.check(Rules(3, "up"), whole_over, [little, many], "-0")


class AllTest(ReckonCase):
    def test_nothing_numbers_at_each_place(self):
        for work, other in itertools.product((over, whole_over, rest_of), all_kinds()):
            self.check(Rules(), work, [nothing(), other], NOTHING)
            self.check(Rules(), work, [other, nothing()], NOTHING)

    def test_what_is_no_number_at_each_place(self):
        for work, thing in itertools.product((over, whole_over, rest_of), no_numbers() + [Number]):
            for other in (plain(0, 1, 0), plain(0, 0, 0), end(0), nothing(), thing):
                self.refused(BadNumber, work, thing, other)
                self.refused(BadNumber, work, other, thing)

    def test_whole_times_the_second_and_the_rest_give_the_first(self):
        for one, other in itertools.product(SOME, SOME):
            context = Rules(24).context()
            whole, left = whole_over(context, one, other), rest_of(context, one, other)
            if context.flags() == []:
                self.assertEqual(worth(whole) * worth(other) + worth(left), worth(one))
                self.assertLess(abs(worth(left)), abs(worth(other)))


if __name__ == "__main__":
    main()
