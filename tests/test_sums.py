import itertools
from unittest import main

from reckoning import NOTHING, SOME_RULES, ReckonCase, Rules, all_kinds, settle_signed, worth
from strange import no_numbers
from tenreckon.errors import BadNumber
from tenreckon.numbers import Number, end, nothing, plain, told
from tenreckon.sums import fused, minus, plus, times
from tenreckon.texts import read
from tenreckon.ways import WAYS

SOME = [read(text) for text in """
1 -1 1.0 9 -9.99 0.5 5e-1 12345 -0.00012345 1e10 99999 -1e-12 333333e-3 1e200 -1e-200 7e60 5e-61 100e3
999999999999999999999999999999999999999999999999999999999999 -123456789012345678901234e-90 0 -0 0e-5 -0e7 0e200
""".split()]


def turned(number):
    return Number(number.kind, 1 - number.sign, number.figures, number.power)


def no_sum(rules, one, other):
    """The sign of a sum that is nought."""
    if one.sign == other.sign:
        return one.sign
    return int(rules.way == "floor")


def wanted_sum(rules, one, other):
    ideal = min(one.power, other.power)
    return settle_signed(rules, no_sum(rules, one, other), worth(one) + worth(other), ideal)


class PlusTest(ReckonCase):
    def test_against_fractions(self):
        for rules, one, other in itertools.product(SOME_RULES, SOME, SOME):
            self.quick(rules, plus, [one, other], *wanted_sum(rules, one, other))
            self.quick(rules, minus, [one, other], *wanted_sum(rules, one, turned(other)))

    def test_trapped(self):
        for one, other in itertools.product(SOME[:12], SOME[:12]):
            self.check(SOME_RULES[1], plus, [one, other], *wanted_sum(SOME_RULES[1], one, other))
            self.check(SOME_RULES[1], minus, [one, other], *wanted_sum(SOME_RULES[1], one, turned(other)))

    def test_by_hand(self):
        rules = Rules(5, least=-9, most=9)
        self.check(rules, plus, "1.5 2.25", "3.75")
        self.check(rules, plus, "1.5 -2.25", "-0.75")
        self.check(rules, minus, "1.5 2.25", "-0.75")
        self.check(rules, minus, "1.5 -2.25", "3.75")
        self.check(rules, plus, "1e3 1", "1001")
        self.check(rules, plus, "1e3 1.0", "1001.0")
        self.check(rules, plus, "1e3 1.00", "1001.0", "cut")
        self.check(rules, plus, "1e3 1.01", "1001.0", "off cut")
        self.check(rules, plus, "1e5 1", "1.0000e+5", "off cut")
        self.check(rules, plus, "12 -10", "2")
        self.check(rules, plus, "12 0e-9", "12.000", "cut")
        self.check(rules, plus, "12 0e9", "12")
        self.check(rules, plus, "9e9 9e9", "end", "burst off cut")
        self.check(rules, minus, "-9e9 9e9", "-end", "burst off cut")
        self.check(rules, minus, "1.0001e-9 1e-9", "1e-13", "faint")

    def test_far_apart(self):
        self.each_way(Rules(3), plus, "1e60 1e-200", "1.00e+60 1.01e+60 1.00e+60 1.01e+60 1.00e+60 1.00e+60 1.00e+60 "
                      "1.01e+60", "off cut")
        self.each_way(Rules(3), minus, "1e60 1e-200", "9.99e+59 1.00e+60 9.99e+59 1.00e+60 1.00e+60 1.00e+60 1.00e+60 "
                      "9.99e+59", "off cut")
        self.each_way(Rules(3), minus, "-1e60 -1e-200", "-9.99e+59 -1.00e+60 -1.00e+60 -9.99e+59 -1.00e+60 -1.00e+60 "
                      "-1.00e+60 -9.99e+59", "off cut")

    def test_the_sign_of_nought(self):
        for text in ("1 -1", "-1 1", "1.0 -1", "12e5 -120e4", "0 -0", "-0 0", "-0.0 0"):
            one, other = map(read, text.split())
            power = min(one.power, other.power)
            for way in WAYS:
                sign = int(way == "floor")
                self.check(Rules(way=way), plus, [one, other], ("plain", sign, 0, power))
                self.check(Rules(way=way), minus, [one, turned(other)], ("plain", sign, 0, power))
        for way in WAYS:
            self.check(Rules(way=way), plus, "0 0", "0")
            self.check(Rules(way=way), plus, "-0 -0", "-0")
            self.check(Rules(way=way), minus, "0 -0", "0")
            self.check(Rules(way=way), minus, "-0 0", "-0")
            self.check(Rules(way=way), plus, "-0e3 -0e-2", "-0.00")
            self.check(Rules(way=way, least=0, most=3), plus, "0e99 0e80", "0e+3")
            self.check(Rules(3, way=way, least=0, most=3), plus, "0e-99 -0e80", ("plain", int(way == "floor"), 0, -2))

    def test_ends(self):
        for way in WAYS:
            rules = Rules(2, way, 0, 0)
            for text in ("0", "-0", "1", "-1", "1e200", "-1e200", "1e-200"):
                for first, wanted in (("end", "end"), ("-end", "-end")):
                    self.check(rules, plus, [first, text], wanted)
                    self.check(rules, plus, [text, first], wanted)
                    self.check(rules, minus, [first, text], wanted)
                self.check(rules, minus, [text, "end"], "-end")
                self.check(rules, minus, [text, "-end"], "end")
            self.check(rules, plus, "end end", "end")
            self.check(rules, plus, "-end -end", "-end")
            self.check(rules, plus, "end -end", "none", "void")
            self.check(rules, plus, "-end end", "none", "void")
            self.check(rules, minus, "end -end", "end")
            self.check(rules, minus, "-end end", "-end")
            self.check(rules, minus, "end end", "none", "void")
            self.check(rules, minus, "-end -end", "none", "void")


class TimesTest(ReckonCase):
    def test_against_fractions(self):
        for rules, one, other in itertools.product(SOME_RULES, SOME, SOME):
            sign = int(one.sign != other.sign)
            wanted = settle_signed(rules, sign, worth(one) * worth(other), one.power + other.power)
            self.quick(rules, times, [one, other], *wanted)

    def test_by_hand(self):
        rules = Rules(4, least=-9, most=9)
        self.check(rules, times, "1.5 2.5", "3.75")
        self.check(rules, times, "-1.5 2.50", "-3.750")
        self.check(rules, times, "1.5 -2.5e3", "-3.75e+3")
        self.check(rules, times, "-1.5 -2", "3.0")
        self.check(rules, times, "100 1.000", "100.0", "cut")
        self.check(rules, times, "333 333", "1.109e+5", "off cut")
        self.check(rules, times, "1e5 1e5", "end", "burst off cut")
        self.check(rules, times, "-1e-5 1e-5", "-1e-10", "faint")
        self.check(rules, times, "-3333e-8 3e-9", "-0e-12", "sunk faint off cut")
        self.check(rules, times, "2e200 -5e-200", "-10")

    def test_noughts(self):
        rules = Rules(4, least=-9, most=9)
        for one, other in itertools.product(("0", "-0"), ("0", "-0", "7", "-7")):
            negative = one.startswith("-") != other.startswith("-")
            self.check(rules, times, [one, other], "-0" if negative else "0")
            self.check(rules, times, [other, one], "-0" if negative else "0")
        self.check(rules, times, "0.00 0.0", "0.000")
        self.check(rules, times, "-0e5 1e9", "-0e+9")
        self.check(rules, times, "0e-99 -1e9", "-0e-12")
        self.check(rules, times, "0e200 1e200", "0e+9")

    def test_ends(self):
        rules = Rules(2, "down", 0, 0)
        for one, other in itertools.product(("end", "-end"), ("end", "-end", "1", "-1", "1e-200", "-5e200")):
            negative = one.startswith("-") != other.startswith("-")
            self.check(rules, times, [one, other], "-end" if negative else "end")
            self.check(rules, times, [other, one], "-end" if negative else "end")
        for one, other in itertools.product(("end", "-end"), ("0", "-0", "0e-200", "-0e200")):
            self.check(rules, times, [one, other], "none", "void")
            self.check(rules, times, [other, one], "none", "void")


class FusedTest(ReckonCase):
    def wanted(self, rules, one, other, third):
        sign = int(one.sign != other.sign)
        power = one.power + other.power
        product = Number("plain", sign, one.figures * other.figures, power)
        total = worth(one) * worth(other) + worth(third)
        return settle_signed(rules, no_sum(rules, product, third), total, min(power, third.power))

    def test_against_fractions(self):
        few = SOME[:5] + SOME[-7:]
        for rules, one, other, third in itertools.product(SOME_RULES, few, few, few):
            self.quick(rules, fused, [one, other, third], *self.wanted(rules, one, other, third))

    def test_by_hand(self):
        rules = Rules(4, least=-9, most=9)
        self.check(rules, fused, "1.5 2 0.25", "3.25")
        self.check(rules, fused, "1.5 -2 0.25", "-2.75")
        self.check(rules, fused, "1.5 2 -3", "0.0")
        self.check(rules, fused, "2 3 4e5", "4.000e+5", "off cut")
        self.check(rules, fused, "1e8 1e8 1", "end", "burst off cut")
        self.check(rules, fused, "1e8 1e8 -1e16", "0e+9")
        self.check(rules, fused, "10 10 0.000", "100.0", "cut")

    def test_rounded_once(self):
        rules = Rules(4, "half even")
        # By two steps the product would be rounded to 1.002e+6 first.
        self.check(rules, fused, "1001 1001 -1002000", "1")
        self.check(rules, fused, "1001 1001 -1.002e6", "1")
        self.check(Rules(3, "up"), fused, "1.01 1.01 -1.02", "0.0001")
        self.check(Rules(3, "half up"), fused, "1.11 1.11 0.0029", "1.24", "off cut")

    def test_a_product_of_many_figures(self):
        many = plain(0, 10 ** 60 - 1, -60)
        for way, third in itertools.product(WAYS, (plain(1, 1, 0), plain(1, 10 ** 60 - 2, -60), plain(0, 0, 0))):
            rules = Rules(24, way)
            self.check(rules, fused, [many, many, third],
                       *settle_signed(rules, 0, worth(many) ** 2 + worth(third), -120))

    def test_a_third_that_takes_it_away(self):
        for way in WAYS:
            sign = int(way == "floor")
            rules = Rules(3, way)
            for first, second in ((0, 0), (-9, 2)):
                handed = [plain(0, 10 ** 30 - 1, first), plain(0, 10 ** 30 + 1, second),
                          plain(1, 10 ** 60 - 1, first + second)]
                self.check(rules, fused, handed, ("plain", sign, 0, first + second))
            self.check(rules, fused, [plain(0, 10 ** 59, -59), plain(1, 10 ** 59, -59), plain(0, 1, 0)],
                       ("plain", sign, 0, -62))
            self.check(rules, fused, [plain(0, 10 ** 59, 0), plain(0, 10 ** 59, -118), plain(1, 1, 0)],
                       ("plain", sign, 0, -62))

    def test_the_sign_of_nought(self):
        for way in WAYS:
            unlike = "-0" if way == "floor" else "0"
            self.check(Rules(way=way), fused, "0 1 0", "0")
            self.check(Rules(way=way), fused, "0 -1 -0", "-0")
            self.check(Rules(way=way), fused, "-0 -1 -0", unlike)
            self.check(Rules(way=way), fused, "-0 1 0", unlike)
            self.check(Rules(way=way), fused, "-2 3 6", unlike)
            self.check(Rules(way=way), fused, "2 3 -6", unlike)

    def test_ends(self):
        rules = Rules(2, "floor", 0, 0)
        for third in ("0", "-5", "end", "1e200"):
            self.check(rules, fused, ["end", "2", third], "end")
            self.check(rules, fused, ["-2", "-end", third], "end")
            self.check(rules, fused, ["-end", "-end", third], "end")
        for third in ("0", "-5", "-end", "1e200"):
            self.check(rules, fused, ["end", "-2", third], "-end")
            self.check(rules, fused, ["-end", "end", third], "-end")
        for one, other in (("1", "2"), ("0", "2"), ("-0", "0"), ("1e200", "-1e200")):
            self.check(rules, fused, [one, other, "end"], "end")
            self.check(rules, fused, [one, other, "-end"], "-end")
        self.check(rules, fused, "end 2 -end", "none", "void")
        self.check(rules, fused, "end -2 end", "none", "void")
        self.check(rules, fused, "-end -end -end", "none", "void")

    def test_an_end_by_nought_whatever_the_third_is(self):
        rules = Rules(2, "floor", 0, 0)
        for third in ("0", "1", "-1", "end", "-end", "1e200"):
            for one, other in itertools.product(("end", "-end"), ("0", "-0", "0e9")):
                self.check(rules, fused, [one, other, third], "none", "void")
                self.check(rules, fused, [other, one, third], "none", "void")

    def test_a_nothing_number_ahead_of_void(self):
        for handed in ("end 0 none", "0 -end none", "none end 0", "0 none end", "end none -end", "end 1 none"):
            self.check(Rules(), fused, handed, "none")


class AllTest(ReckonCase):
    def test_nothing_numbers_at_each_place(self):
        for work in (plus, minus, times):
            for other in all_kinds():
                self.check(Rules(), work, [nothing(), other], NOTHING)
                self.check(Rules(), work, [other, nothing()], NOTHING)
        for other, third in itertools.product(all_kinds(), all_kinds()):
            for handed in ([nothing(), other, third], [other, nothing(), third], [other, third, nothing()]):
                self.check(Rules(), fused, handed, NOTHING)

    def test_what_is_no_number_at_each_place(self):
        for thing in no_numbers() + [Number]:
            for other in (plain(0, 1, 0), end(0), nothing(), thing):
                for work in (plus, minus, times):
                    self.refused(BadNumber, work, thing, other)
                    self.refused(BadNumber, work, other, thing)
                for handed in ((thing, other, other), (other, thing, other), (other, other, thing)):
                    self.refused(BadNumber, fused, *handed)

    def test_refused_ahead_of_void(self):
        self.refused(BadNumber, fused, end(0), plain(0, 0, 0), None)
        self.refused(BadNumber, fused, end(0), plain(0, 0, 0), 1)

    def test_told_is_a_number_that_keeps_to_the_bounds(self):
        for one, other in itertools.product(SOME, SOME):
            for work in (plus, minus, times):
                kind, sign, figures, power = told(work(Rules(24).context(), one, other))
                if kind == "plain":
                    self.assertEqual(told(plain(sign, figures, power)), (kind, sign, figures, power))

    def test_flags_gather_over_a_row(self):
        context = Rules(3, most=3).context()
        plus(context, read("1"), read("2"))
        self.assertEqual(context.flags(), [])
        times(context, read("10"), read("1.0"))
        self.assertEqual(context.flags(), [])
        times(context, read("10"), read("1.000"))
        self.assertEqual(context.flags(), ["cut"])
        minus(context, end(0), end(0))
        self.assertEqual(context.flags(), ["void", "cut"])
        fused(context, read("999"), read("999"), read("0"))
        self.assertEqual(context.flags(), ["void", "burst", "off", "cut"])
        plus(context, read("1"), read("2"))
        self.assertEqual(context.flags(), ["void", "burst", "off", "cut"])


if __name__ == "__main__":
    main()
