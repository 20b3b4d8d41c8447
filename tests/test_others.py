import bisect
import itertools
from fractions import Fraction
from unittest import main

from reckoning import (
    NOTHING, ReckonCase, Rules, all_kinds, away, in_order, lead, settle, settle_signed, split, ten, worth)
from strange import no_numbers, no_wholes
from tenreckon.errors import BadCount, BadNumber
from tenreckon.numbers import Number, end, nothing, plain, told
from tenreckon.others import next_down, next_up, same_power, scaled, to_whole, trimmed
from tenreckon.ways import WAYS

FIGURES = (1, 4, 5, 6, 9, 10, 15, 49, 50, 51, 94, 95, 99, 100, 994, 995, 996, 999, 1000, 1200, 12345, 99999, 10 ** 24,
           10 ** 24 - 1, 10 ** 60 - 1, 5 * 10 ** 59)


class SamePowerTest(ReckonCase):
    def wanted(self, rules, one, power):
        if not rules.lowest <= power <= rules.most:
            return NOTHING, ["void"]
        if one.figures == 0:
            return ("plain", one.sign, 0, power), []
        figures, side = split(abs(worth(one)), power)
        flags = set()
        if side is not None:
            figures += away(rules.way, one.sign, figures, side)
            flags |= {"off", "cut"}
        elif power > one.power:
            flags |= {"cut"}
        if len(str(figures)) > rules.room or figures and power + len(str(figures)) - 1 > rules.most:
            return NOTHING, ["void"]
        if figures and lead(figures * ten(power)) < rules.least:
            flags |= {"faint", "sunk"} if "off" in flags else {"faint"}
        return ("plain", one.sign, figures, power), in_order(flags)

    def test_against_fractions(self):
        for way, figures, power in itertools.product(WAYS, (0,) + FIGURES, (-9, -5, -3, -1, 0, 1, 3)):
            for sign, other in itertools.product((0, 1), range(-7, 7)):
                rules = Rules(3, way, -2, 4)
                one = plain(sign, figures, power)
                self.quick(rules, same_power, [one, plain(1 - sign, 7, other)], *self.wanted(rules, one, other))

    def test_in_other_contexts(self):
        for rules in (Rules(24), Rules(24, "up", 0, 0), Rules(1, "five up", 0, 0), Rules(1, "ceiling"),
                      Rules(2, "floor", -3, 1)):
            for figures, power in itertools.product((0,) + FIGURES, (-200, -84, -60, -24, -3, 0, 2, 60, 200)):
                for other in (-200, -84, -83, -82, -61, -60, -24, -23, -22, -4, -1, 0, 1, 2, 59, 60, 61, 200):
                    one = plain(1, figures, power)
                    self.quick(rules, same_power, [one, plain(0, 0, other)], *self.wanted(rules, one, other))

    def test_exactly(self):
        rules = Rules(4, least=-3, most=3)
        self.check(rules, same_power, "1.2 1.00", "1.20")
        self.check(rules, same_power, "-1.2 1.00", "-1.20")
        self.check(rules, same_power, "1.2 -1.0", "1.2")
        self.check(rules, same_power, "12 0", "12")
        self.check(rules, same_power, "1e3 99", "1000")
        self.check(rules, same_power, "0.1234 0e-4", "0.1234")

    def test_by_noughts_that_go(self):
        rules = Rules(4, least=-3, most=3)
        self.check(rules, same_power, "1.20 0.1", "1.2", "cut")
        self.check(rules, same_power, "1000 1e3", "1e+3", "cut")
        self.check(rules, same_power, "-500 9e2", "-5e+2", "cut")
        self.check(rules, same_power, "12.0000000 1", "12", "cut")

    def test_each_way(self):
        rules = Rules(3)
        self.each_way(rules, same_power, "1.25 0.1", "1.2 1.3 1.2 1.3 1.3 1.2 1.2 1.2", "off cut")
        self.each_way(rules, same_power, "-1.35 0.1", "-1.3 -1.4 -1.4 -1.3 -1.4 -1.3 -1.4 -1.3", "off cut")
        self.each_way(rules, same_power, "1.51 1", "1 2 1 2 2 2 2 1", "off cut")
        self.each_way(rules, same_power, "5.01 1", "5 6 5 6 5 5 5 6", "off cut")
        self.each_way(rules, same_power, "-0.3 1", "-0 -1 -1 -0 -0 -0 -0 -1", "off cut")
        self.each_way(rules, same_power, "0.5 1", "0 1 0 1 1 0 0 1", "off cut")
        self.each_way(rules, same_power, "3e-200 1e1", "0e+1 1e+1 0e+1 1e+1 0e+1 0e+1 0e+1 1e+1", "off cut")

    def test_nought(self):
        rules = Rules(2, least=-3, most=3)
        for power in range(-4, 4):
            for sign, other in itertools.product((0, 1), (-200, -9, 0, 9, 200)):
                self.check(rules, same_power, [plain(sign, 0, other), plain(0, 5, power)], ("plain", sign, 0, power))
        for power in (-200, -6, -5, 4, 5, 200):
            for sign, other in itertools.product((0, 1), (-200, power, 0, 200)):
                self.check(rules, same_power, [plain(sign, 0, other), plain(0, 5, power)], NOTHING, "void")
                self.check(rules, same_power, [plain(sign, 0, other), plain(1, 0, power)], NOTHING, "void")

    def test_powers_at_and_beyond_the_bounds(self):
        rules = Rules(3, least=-2, most=3)
        self.check(rules, same_power, "0.0123 1e-4", "0.0123")
        self.check(rules, same_power, "0.0123 1e-5", "none", "void")
        self.check(rules, same_power, "1e-5 1e-5", "none", "void")
        self.check(rules, same_power, "4e3 1e3", "4e+3")
        self.check(rules, same_power, "4e4 1e4", "none", "void")
        self.check(rules, same_power, "40 1e3", "0e+3", "off cut")
        self.check(rules, same_power, "40 1e4", "none", "void")

    def test_figures_at_and_beyond_room(self):
        rules = Rules(3, "half up", -9, 9)
        self.check(rules, same_power, "999 1", "999")
        self.check(rules, same_power, "99.9 0.1", "99.9")
        self.check(rules, same_power, "99.9 0.01", "none", "void")
        self.check(rules, same_power, "1000 1", "none", "void")
        self.check(rules, same_power, "999.4 1", "999", "off cut")
        self.check(rules, same_power, "999.5 1", "none", "void")
        self.check(rules, same_power, "99.95 0.1", "none", "void")
        self.check(rules, same_power, "9.995 0.1", "10.0", "off cut")

    def test_the_lead_above_the_greatest(self):
        rules = Rules(5, "half up", -2, 2)
        self.check(rules, same_power, "999.4 1", "999", "off cut")
        self.check(rules, same_power, "999.5 1", "none", "void")
        self.check(rules, same_power, "1000 1", "none", "void")
        self.check(rules, same_power, "1e3 1e2", "none", "void")
        self.check(rules, same_power, "9e2 1e2", "9e+2")

    def test_faint_and_sunk(self):
        rules = Rules(3, "half up", -2, 2)
        self.check(rules, same_power, "0.0012 1e-4", "0.0012", "faint")
        self.check(rules, same_power, "0.00120 1e-4", "0.0012", "faint cut")
        self.check(rules, same_power, "0.00125 1e-4", "0.0013", "sunk faint off cut")
        self.check(rules, same_power, "0.00004 1e-4", "0.0000", "off cut")
        self.check(rules, same_power, "0.00996 1e-4", "0.0100", "off cut")
        self.check(rules, same_power, "0.0100 1e-4", "0.0100")
        # What is told counts here, not the exact value.
        self.check(rules, same_power, "0.0051 0.01", "0.01", "off cut")

    def test_ends(self):
        for way in WAYS:
            rules = Rules(1, way, 0, 0)
            for first, second in itertools.product(("end", "-end"), repeat=2):
                self.check(rules, same_power, [first, second], first)
            for first, second in itertools.product(("end", "-end"), ("0", "-0", "1", "-1e200")):
                self.check(rules, same_power, [first, second], "none", "void")
                self.check(rules, same_power, [second, first], "none", "void")


class ToWholeTest(ReckonCase):
    def test_against_fractions(self):
        for way, figures, sign in itertools.product(WAYS, FIGURES, (0, 1)):
            rules = Rules(2, way, -1, 1)
            for power in (-200, -61, -60, -59, -24, -3, -2, -1):
                whole, side = split(figures * ten(power), 0)
                whole += 0 if side is None else away(way, sign, whole, side)
                self.quick(rules, to_whole, [plain(sign, figures, power)], ("plain", sign, whole, 0), [])
            for power in (0, 1, 2, 60, 200):
                one = plain(sign, figures, power)
                self.quick(rules, to_whole, [one], told(one), [])

    def test_by_hand(self):
        rules = Rules(1, least=0, most=0)
        self.each_way(rules, to_whole, "12.5", "12 13 12 13 13 12 12 12")
        self.each_way(rules, to_whole, "-13.5", "-13 -14 -14 -13 -14 -13 -14 -13")
        self.each_way(rules, to_whole, "0.1", "0 1 0 1 0 0 0 1")
        self.each_way(rules, to_whole, "-0.1", "-0 -1 -1 -0 -0 -0 -0 -1")
        self.each_way(rules, to_whole, "-1e-200", "-0 -1 -1 -0 -0 -0 -0 -1")
        for way in WAYS:
            ruled = rules._replace(way=way)
            self.check(ruled, to_whole, "12.00", "12")
            self.check(ruled, to_whole, "123456.0", "123456")
            self.check(ruled, to_whole, ["1234567890" * 6 + "e5"], "1234567890" * 6 + "e5")
            self.check(ruled, to_whole, "12e1", "12e1")
            self.check(ruled, to_whole, "12", "12")

    def test_many_figures(self):
        nines = plain(0, 10 ** 60 - 1, -1)
        self.each_way(Rules(1, least=0, most=0), to_whole, [nines], " ".join(
            "9" * 59 if way in ("down", "floor", "five up") else "1" + "0" * 59 for way in WAYS))

    def test_noughts(self):
        for sign, mark in ((0, ""), (1, "-")):
            for power in (-200, -2, -1, 0):
                self.check(Rules(1, "up"), to_whole, [plain(sign, 0, power)], mark + "0")
            for power in (1, 2, 60, 200):
                self.check(Rules(1, "up", 0, 0), to_whole, [plain(sign, 0, power)], ("plain", sign, 0, power))

    def test_ends(self):
        for way in WAYS:
            self.check(Rules(1, way, 0, 0), to_whole, "end", "end")
            self.check(Rules(1, way, 0, 0), to_whole, "-end", "-end")


class TrimmedTest(ReckonCase):
    def test_against_fractions(self):
        for way, figures, power in itertools.product(WAYS, FIGURES, (-200, -9, -5, -3, -1, 0, 1, 3, 200)):
            for rules in (Rules(3, way, -2, 4), Rules(24, way), Rules(1, way, 0, 0)):
                self.quick(rules, trimmed, [plain(1, figures, power)], *settle(rules, 1, figures * ten(power), 10 ** 6))

    def test_by_hand(self):
        rules = Rules(4, least=-4, most=6)
        self.check(rules, trimmed, "1200", "1.2e+3")
        self.check(rules, trimmed, "-1.200", "-1.2")
        self.check(rules, trimmed, "12", "12")
        self.check(rules, trimmed, "1.0", "1")
        self.check(rules, trimmed, "1000000", "1e+6")
        self.check(rules, trimmed, "1.2000000000", "1.2")
        self.check(rules, trimmed, "100e4", "1e+6")
        self.check(rules, trimmed, "100e5", "end", "burst off cut")
        self.check(rules, trimmed, "0.00001200", "0.000012", "faint")
        self.check(rules, trimmed, "12345", "1.234e+4", "off cut")
        # Only what is told exactly goes to a greater power.
        self.check(rules, trimmed, "12000.1", "1.200e+4", "off cut")

    def test_noughts(self):
        for sign, mark in ((0, ""), (1, "-")):
            for power in (-200, -3, 0, 3, 200):
                self.check(Rules(1, "up", 0, 0), trimmed, [plain(sign, 0, power)], mark + "0")
                self.check(Rules(24), trimmed, [plain(sign, 0, power)], mark + "0")

    def test_ends(self):
        for way in WAYS:
            self.check(Rules(1, way, 0, 0), trimmed, "end", "end")
            self.check(Rules(1, way, 0, 0), trimmed, "-end", "-end")


class ScaledTest(ReckonCase):
    def test_against_fractions(self):
        for rules in (Rules(3, "half up", -2, 4), Rules(24, "five up"), Rules(1, "floor", 0, 0)):
            for figures, power, sign in itertools.product((0,) + FIGURES, (-200, -50, -3, 0, 3, 50, 200), (0, 1)):
                for count in (-100, -99, -50, -1, 0, 1, 2, 50, 100):
                    one = plain(sign, figures, power)
                    wanted = settle_signed(rules, sign, worth(one) * ten(count), power + count)
                    self.quick(rules, scaled, [one, count], *wanted)

    def test_by_hand(self):
        rules = Rules(4, least=-9, most=9)
        self.check(rules, scaled, ["1.2", 0], "1.2")
        self.check(rules, scaled, ["1.2", 1], "12")
        self.check(rules, scaled, ["-1.2", 3], "-1.2e+3")
        self.check(rules, scaled, ["1.2", -2], "0.012")
        self.check(rules, scaled, ["12000", -1], "1200", "cut")
        self.check(rules, scaled, ["12345", 1], "1.234e+5", "off cut")
        self.check(rules, scaled, ["1", 10], "end", "burst off cut")
        self.check(rules, scaled, ["1", -10], "1e-10", "faint")
        self.check(rules, scaled, ["1", -100], "0e-12", "sunk faint off cut")
        self.check(rules, scaled, ["1e100", -100], "1")
        self.check(rules, scaled, ["-1e-100", 100], "-1")
        self.check(rules, scaled, ["0", 5], "0e+5")
        self.check(rules, scaled, ["-0", 100], "-0e+9")
        self.check(rules, scaled, ["-0e-200", -100], "-0e-12")
        self.check(rules, scaled, ["1e200", 100], "end", "burst off cut")
        self.check(rules, scaled, ["-1e-200", -100], "-0e-12", "sunk faint off cut")

    def test_ends_and_nothing(self):
        for count in (-100, 0, 100):
            self.check(Rules(1, "down", 0, 0), scaled, ["end", count], "end")
            self.check(Rules(1, "down", 0, 0), scaled, ["-end", count], "-end")
            self.check(Rules(1, "down", 0, 0), scaled, ["none", count], "none")

    def test_counts_at_and_beyond_the_bounds(self):
        for number in all_kinds():
            for count in (-100, -1, 0, 1, 100):
                scaled(Rules().context(), number, count)
            for count in (-101, 101, -102, 102, 10 ** 5000, -10 ** 5000):
                self.refused(BadCount, scaled, number, count)

    def test_counts_of_other_kinds(self):
        for thing in no_wholes() + [plain(0, 1, 0)]:
            for number in (plain(0, 2, 0), plain(0, 0, 0), end(1), nothing()):
                self.refused(BadCount, scaled, number, thing)

    def test_no_number_ahead_of_no_count(self):
        for thing in no_numbers() + [Number]:
            for count in (0, 1, 101, None, True, "1", thing):
                self.refused(BadNumber, scaled, thing, count)


def tellable(rules):
    """The worths above nought that settling may tell."""
    found = set()
    for power in range(rules.lowest, rules.most + 1):
        for figures in range(1, 10 ** rules.room):
            if power + len(str(figures)) - 1 <= rules.most:
                found.add(figures * ten(power))
    return found


def filled(rules, sign, size):
    """As told: with as many figures as room, or at the lowest power."""
    power = rules.lowest if size == 0 else max(lead(size) - rules.room + 1, rules.lowest)
    return ("plain", sign, int(size / ten(power)), power)


class NextTest(ReckonCase):
    def wanted_up(self, rules, one, everything):
        place = bisect.bisect_right(everything, worth(one))
        if place == len(everything):
            return ("end", 0, 0, 0)
        value = everything[place]
        return filled(rules, one.sign if value == 0 else int(value < 0), abs(value))

    def both(self, rules, one, wanted):
        """Next up, and next down of the number with the other sign."""
        self.quick(rules, next_up, [one], wanted, [])
        other = Number(one.kind, 1 - one.sign, one.figures, one.power)
        self.quick(rules, next_down, [other], (wanted[0], 1 - wanted[1]) + wanted[2:], [])

    def test_against_all_there_are(self):
        some = (Rules(1, "up", -2, 2), Rules(2, "down", -1, 2), Rules(2, "floor", 0, 0), Rules(1, least=0, most=0))
        for rules in some:
            sizes = tellable(rules)
            everything = sorted(sizes | {-size for size in sizes} | {Fraction(0)})
            numbers = [filled(rules, 0, size)[2:] for size in sorted(sizes)]
            numbers += [(1, -9), (105, -3), (995, -3), (999, -2), (1, 3), (10 ** 60 - 1, -59), (1, 200), (1, -200),
                        (100, -2), (1000, -3), (10 ** 59, -59), (99, 1), (999, 0), (9999, -1), (10, rules.lowest - 1)]
            for (figures, power), sign in itertools.product(numbers, (0, 1)):
                one = plain(sign, figures, power)
                self.both(rules, one, self.wanted_up(rules, one, everything))
                if figures < 10 ** 57 and power >= -197:
                    more = plain(sign, 1000 * figures + 1, power - 3)
                    self.both(rules, more, self.wanted_up(rules, more, everything))

    def test_nought(self):
        for way, sign, power in itertools.product(WAYS, (0, 1), (-200, -1, 0, 1, 200)):
            for rules in (Rules(1, way, 0, 0), Rules(24, way), Rules(3, way, -4, 4)):
                self.check(rules, next_up, [plain(sign, 0, power)], ("plain", 0, 1, rules.lowest))
                self.check(rules, next_down, [plain(sign, 0, power)], ("plain", 1, 1, rules.lowest))

    def test_the_least_there_are(self):
        rules = Rules(3, least=-4, most=4)
        self.check(rules, next_up, "1e-6", "2e-6")
        self.check(rules, next_down, "1e-6", "0.000000")
        self.check(rules, next_up, "-1e-6", "-0.000000")
        self.check(rules, next_down, "-1e-6", "-2e-6")
        self.check(rules, next_up, "1e-7", "0.000001")
        self.check(rules, next_down, "1e-7", "0.000000")
        self.check(rules, next_up, "-1e-200", "-0.000000")
        self.check(rules, next_down, "-1e-200", "-0.000001")
        self.check(rules, next_down, "2.5e-6", "0.000002")
        self.check(rules, next_up, "2.5e-6", "0.000003")
        self.check(rules, next_up, "99e-6", "0.000100")
        self.check(rules, next_down, "1e-4", "0.000099")

    def test_the_greatest_there_are(self):
        rules = Rules(3, least=-4, most=4)
        self.check(rules, next_up, "9.99e4", "end")
        self.check(rules, next_down, "9.99e4", "9.98e+4")
        self.check(rules, next_up, "9.98e4", "9.99e+4")
        self.check(rules, next_down, "-9.99e4", "-end")
        self.check(rules, next_up, "-9.99e4", "-9.98e+4")
        for text in ("1e5", "99901", "99999.9", "1e200", "100e3"):
            self.check(rules, next_up, [text], "end")
            self.check(rules, next_down, [text], "9.99e+4")
            self.check(rules, next_down, ["-" + text], "-end")
            self.check(rules, next_up, ["-" + text], "-9.99e+4")

    def test_at_a_power_of_ten(self):
        rules = Rules(3, least=-4, most=4)
        self.check(rules, next_down, "1", "0.999")
        self.check(rules, next_up, "1", "1.01")
        self.check(rules, next_up, "-1", "-0.999")
        self.check(rules, next_down, "-1", "-1.01")
        self.check(rules, next_up, "0.999", "1.00")
        self.check(rules, next_down, "1e4", "9.99e+3")
        self.check(rules, next_up, "1e4", "1.01e+4")
        self.check(rules, next_down, "0.001", "0.000999")
        self.check(rules, next_down, "0.0001", "0.000099")
        self.check(Rules(1, least=-1, most=1), next_down, "1", "0.9")
        self.check(Rules(1, least=-1, most=1), next_down, "0.1", "0.0")
        self.check(Rules(1, least=-1, most=1), next_up, "0.9", "1")
        self.check(Rules(1, least=-1, most=1), next_up, "9", "1e+1")
        self.check(Rules(1, least=-1, most=1), next_up, "9e1", "end")

    def test_filled_with_figures(self):
        self.check(Rules(5), next_up, "1.2", "1.2001")
        self.check(Rules(5), next_down, "1.2", "1.1999")
        self.check(Rules(5), next_down, "1e3", "999.99")
        self.check(Rules(24), next_up, "1", "1.00000000000000000000001")
        self.check(Rules(24), next_down, "1", "0.999999999999999999999999")

    def test_more_figures_than_room(self):
        rules = Rules(3, "down")
        self.check(rules, next_up, "1.2345", "1.24")
        self.check(rules, next_down, "1.2345", "1.23")
        self.check(rules, next_up, "-1.2345", "-1.23")
        self.check(rules, next_down, "-1.2345", "-1.24")
        self.check(rules, next_up, "9.9999", "10.0")
        self.check(rules, next_down, "1.0000001", "1.00")
        self.check(rules, next_down, "1.2000000", "1.19")
        self.check(rules, next_up, "1.2000000", "1.21")

    def test_the_way_doesnt_matter(self):
        for way in WAYS:
            self.check(Rules(3, way), next_up, "1.2345", "1.24")
            self.check(Rules(3, way), next_down, "1.2345", "1.23")
            self.check(Rules(3, way, -4, 4), next_up, "1e5", "end")
            self.check(Rules(3, way, -4, 4), next_up, "9.99e4", "end")

    def test_ends(self):
        rules = Rules(3, least=-4, most=4)
        self.check(rules, next_up, "end", "end")
        self.check(rules, next_up, "-end", "-9.99e+4")
        self.check(rules, next_down, "end", "9.99e+4")
        self.check(rules, next_down, "-end", "-end")
        self.check(Rules(24), next_down, "end", "9.99999999999999999999999e+60")
        self.check(Rules(1, "up", 0, 0), next_up, "-end", "-9")

    def test_there_and_back(self):
        rules = Rules(2, least=-2, most=2)
        number = end(1)
        walked = []
        while told(number) != ("end", 0, 0, 0):
            number = next_up(rules.context(), number)
            walked.append(number)
        self.assertEqual(len(walked), 2 * len(tellable(rules)) + 2)
        for before, behind in zip(walked, walked[1:]):
            back = next_down(rules.context(), behind)
            self.assertEqual(worth(back), worth(before))


class AllTest(ReckonCase):
    def test_a_nothing_number(self):
        for work in (to_whole, trimmed, next_up, next_down):
            self.check(Rules(), work, "none", "none")
        for other in all_kinds():
            self.check(Rules(1, "up", 0, 0), same_power, [nothing(), other], NOTHING)
            self.check(Rules(1, "up", 0, 0), same_power, [other, nothing()], NOTHING)

    def test_what_is_no_number_at_each_place(self):
        for thing in no_numbers() + [Number]:
            for work in (to_whole, trimmed, next_up, next_down):
                self.refused(BadNumber, work, thing)
            for other in (plain(0, 1, 0), end(0), nothing(), thing):
                self.refused(BadNumber, same_power, thing, other)
                self.refused(BadNumber, same_power, other, thing)


if __name__ == "__main__":
    main()
