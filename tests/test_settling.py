import itertools
from fractions import Fraction
from unittest import main

from reckoning import NOTHING, ReckonCase, Rules, Surd, no_worth, settle, ten
from strange import no_numbers
from tenreckon.errors import BadNumber, Trapped
from tenreckon.exact import Ratio, Root
from tenreckon.numbers import Number, end, nothing, plain, told
from tenreckon.settling import nought, rounded, settled, void
from tenreckon.ways import WAYS

TINY = Fraction(1, 10 ** 40)
HALF = Fraction(1, 2)
TAILS = (TINY, Fraction(1, 3), HALF - TINY, HALF, HALF + TINY, Fraction(2, 3), 1 - TINY)


def wholes(room):
    """Whole numbers of as many figures as room: with noughts behind, odd, even, with fives, at the edges."""
    low, high = 10 ** (room - 1), 10 ** room
    some = {low, low + 1, low + 5, 5 * low, 2 * low, high - 1, high - 2, high - 10, high - 5, high - high // 100}
    return sorted(whole for whole in some if low <= whole < high)


class SettledTest(ReckonCase):
    def one(self, rules, sign, value, ideal):
        exact = Root(value.square) if isinstance(value, Surd) else Ratio(value.numerator, value.denominator)
        wanted = settle(rules, sign, value, ideal)
        self.quick(rules, settled, [sign, exact, ideal], *wanted)

    def leads(self, rules):
        about = {edge + step for edge in (rules.lowest, rules.least, rules.most) for step in (-1, 0, 1)}
        return sorted(about | {rules.lowest - 2, 0})

    def sweep(self, rules, signs=(0, 1)):
        for lead, whole in itertools.product(self.leads(rules), wholes(rules.room)):
            power = lead - rules.room + 1
            for sign in signs:
                for ideal in (-500, power - 1, power, power + 1, power + 2, lead - 1, lead, lead + 1, 500):
                    self.one(rules, sign, whole * ten(power), ideal)
                for tail, ideal in itertools.product(TAILS, (power - 60, power + 60)):
                    self.one(rules, sign, (whole + tail) * ten(power), ideal)

    def test_each_way_with_little_room(self):
        for way in WAYS:
            self.sweep(Rules(1, way, -3, 4))
            self.sweep(Rules(3, way, -2, 5))

    def test_each_way_with_most_room(self):
        for way in WAYS:
            self.sweep(Rules(24, way, -60, 60), (1,))
            self.sweep(Rules(24, way, 0, 0), (0,))

    def test_least_and_greatest_alike(self):
        for way in WAYS:
            self.sweep(Rules(1, way, 0, 0))
            self.sweep(Rules(2, way, 0, 0))

    def test_about_the_lowest_power(self):
        for way, sign in itertools.product(WAYS, (0, 1)):
            rules = Rules(3, way, -2, 2)
            for whole in (0, 1, 2, 4, 5, 9, 10, 11, 50, 98, 99, 100, 101):
                for tail in (0,) + TAILS:
                    if whole + tail > 0:
                        for ideal in (-9, rules.lowest, rules.lowest + 1, 9):
                            self.one(rules, sign, (whole + tail) * ten(rules.lowest), ideal)

    def test_far_beyond(self):
        for way, sign in itertools.product(WAYS, (0, 1)):
            for value in (ten(500), ten(-500), 10 ** 300 * TINY, ten(-900) / 3, ten(900) / 7):
                for ideal in (-900, 0, 900):
                    self.one(Rules(5, way), sign, value, ideal)

    def test_roots(self):
        for way, sign in itertools.product(WAYS, (0, 1)):
            for square in (1, 2, 3, 4, 100, 10 ** 6, 99980001, 998001, 224, 225, 226, 12250000, 10 ** 120 - 1,
                           7 * 10 ** 90):
                for ideal in (-5, -1, 0, 1, 5):
                    self.one(Rules(3, way, -2, 5), sign, Surd(square), ideal)

    def test_exact_ones_by_hand(self):
        for way in WAYS:
            rules = Rules(4, way, -5, 5)
            for ideal, wanted, flags in ((-9, "12.00", "cut"), (-3, "12.00", "cut"), (-2, "12.00", ""),
                                         (-1, "12.0", ""), (0, "12", ""), (1, "12", ""), (9, "12", "")):
                self.check(rules, settled, [0, Ratio(12, 1), ideal], wanted, flags)
                self.check(rules, settled, [1, Ratio(12, 1), ideal], "-" + wanted, flags)
            for ideal, wanted, flags in ((0, "5.000e+5", "cut"), (2, "5.000e+5", ""), (3, "5.00e+5", ""),
                                         (5, "5e+5", ""), (6, "5e+5", "")):
                self.check(rules, settled, [0, Ratio(5, 1, 5), ideal], wanted, flags)

    def test_neighbours_by_hand(self):
        rules = Rules(2)
        texts = (
            (121, "12 13 12 13 12 12 12 12", "-12 -13 -13 -12 -12 -12 -12 -12"),
            (125, "12 13 12 13 13 12 12 12", "-12 -13 -13 -12 -13 -12 -12 -12"),
            (135, "13 14 13 14 14 13 14 13", "-13 -14 -14 -13 -14 -13 -14 -13"),
            (126, "12 13 12 13 13 13 13 12", "-12 -13 -13 -12 -13 -13 -13 -12"),
            (101, "10 11 10 11 10 10 10 11", "-10 -11 -11 -10 -10 -10 -10 -11"),
            (155, "15 16 15 16 16 15 16 16", "-15 -16 -16 -15 -16 -15 -16 -16"),
            (151, "15 16 15 16 15 15 15 16", "-15 -16 -16 -15 -15 -15 -15 -16"))
        for top, above, below in texts:
            self.each_way(rules, settled, [0, Ratio(top, 10), 0], above, "off cut")
            self.each_way(rules, settled, [1, Ratio(top, 10), 0], below, "off cut")

    def test_one_figure_more_by_hand(self):
        self.each_way(Rules(2), settled, [0, Ratio(999, 10), 0],
                      "99 1.0e+2 99 1.0e+2 1.0e+2 1.0e+2 1.0e+2 99", "off cut")
        self.each_way(Rules(1), settled, [1, Ratio(96, 1), 0],
                      "-9e+1 -1e+2 -1e+2 -9e+1 -1e+2 -1e+2 -1e+2 -9e+1", "off cut")
        self.each_way(Rules(1), settled, [0, Ratio(95, 1), 0], "9e+1 1e+2 9e+1 1e+2 1e+2 9e+1 1e+2 9e+1", "off cut")

    def test_nought_at_the_lowest_power_by_hand(self):
        rules = Rules(3, least=-4)
        self.each_way(rules, settled, [0, Ratio(5, 1, -7), 9], "0.000000 0.000001 0.000000 0.000001 0.000001 "
                      "0.000000 0.000000 0.000001", "sunk faint off cut")
        self.each_way(rules, settled, [1, Ratio(5, 1, -300), 9], "-0.000000 -0.000001 -0.000001 -0.000000 -0.000000 "
                      "-0.000000 -0.000000 -0.000001", "sunk faint off cut")

    def test_the_signals_are_the_exact_values(self):
        rules = Rules(2, least=-1)
        # What comes to the least lead by rounding was fainter.
        self.check(rules, settled, [0, Ratio(999, 10000), 0], "0.10", "sunk faint off cut")
        self.check(rules, settled, [0, Ratio(99, 1000), -2], "0.10", "sunk faint off cut")
        self.check(rules, settled, [0, Ratio(9, 100), -2], "0.09", "faint")
        self.check(rules, settled, [0, Ratio(9, 100), -3], "0.09", "faint cut")
        self.check(rules, settled, [0, Ratio(1, 10), -2], "0.10", "")
        self.check(rules, settled, [0, Ratio(101, 1000), -2], "0.10", "off cut")

    def test_bursting_by_hand(self):
        nines = "9.9e+3"
        for exact in (Ratio(1, 1, 4), Ratio(10 ** 400, 3), Ratio(10000, 1)):
            for ideal in (-300, 0, 4, 300):
                self.each_way(Rules(2, most=3), settled, [0, exact, ideal],
                              f"{nines} end {nines} end end end end {nines}", "burst off cut")
                self.each_way(Rules(2, most=3), settled, [1, exact, ideal],
                              f"-{nines} -end -end -{nines} -end -end -end -{nines}", "burst off cut")

    def test_bursting_by_rounding(self):
        wanted = "9.9e+3 end 9.9e+3 end end end end 9.9e+3"
        for way, text in zip(WAYS, wanted.split()):
            flags = "burst off cut" if text == "end" else "off cut"
            self.check(Rules(2, way, most=3), settled, [0, Ratio(9951, 1), 0], text, flags)

    def test_the_nines_at_the_edges_of_contexts(self):
        self.check(Rules(24, "down", 0, 0), settled, [0, Ratio(10, 1), 0], "9." + "9" * 23, "burst off cut")
        self.check(Rules(1, "down", 0, 0), settled, [1, Ratio(10, 1), 0], "-9", "burst off cut")
        self.check(Rules(1, "down", 0, 60), settled, [1, Ratio(1, 1, 61), 61], "-9e+60", "burst off cut")

    def test_at_the_greatest_lead(self):
        rules = Rules(3, most=2)
        self.check(rules, settled, [0, Ratio(999, 1), 0], "999")
        self.check(rules, settled, [0, Ratio(9994, 10), 0], "999", "off cut")
        self.check(rules, settled, [0, Ratio(9995, 10), 0], "end", "burst off cut")
        self.check(rules, settled, [0, Ratio(1000, 1), 0], "end", "burst off cut")


class NoughtTest(ReckonCase):
    def test_the_nearest_power(self):
        for rules in (Rules(3, least=-2, most=5), Rules(1, least=0, most=0), Rules(24), Rules(1),
                      Rules(24, "up", 0, 0)):
            for sign in (0, 1):
                for ideal in range(-100, 80):
                    self.check(rules, nought, [sign, ideal], *no_worth(rules, sign, ideal))
                for ideal in (-2000, -10 ** 9, 2000, 10 ** 9):
                    self.check(rules, nought, [sign, ideal], *no_worth(rules, sign, ideal))

    def test_by_hand(self):
        rules = Rules(3, least=-2, most=5)
        for ideal, power in ((-9, -4), (-5, -4), (-4, -4), (-3, -3), (0, 0), (4, 4), (5, 5), (6, 5), (99, 5)):
            self.check(rules, nought, [0, ideal], ("plain", 0, 0, power))
            self.check(rules, nought, [1, ideal], ("plain", 1, 0, power))


class VoidTest(ReckonCase):
    def test_void(self):
        for way in WAYS:
            self.check(Rules(way=way), void, [], NOTHING, "void")

    def test_a_context_goes_on_behind_a_trap(self):
        context = Rules().context()
        context.trap(["void"])
        for count in range(3):
            with self.assertRaises(Trapped) as caught:
                void(context)
            self.assertEqual(caught.exception.signal, "void")
        context.trap([])
        self.assertEqual(told(void(context)), NOTHING)
        self.assertEqual(context.flags(), ["void"])


class RoundedTest(ReckonCase):
    def test_by_hand(self):
        rules = Rules(3, least=-2, most=5)
        self.check(rules, rounded, "123", "123")
        self.check(rules, rounded, "-1.20", "-1.20")
        self.check(rules, rounded, "1200", "1.20e+3", "cut")
        self.check(rules, rounded, "1.2e+3", "1.2e+3")
        self.check(rules, rounded, "1234", "1.23e+3", "off cut")
        self.check(rules, rounded, "1235", "1.24e+3", "off cut")
        self.check(rules, rounded, "-0.0012", "-0.0012", "faint")
        self.check(rules, rounded, "-0.00120", "-0.0012", "faint cut")
        self.check(rules, rounded, "0.00123", "0.0012", "sunk faint off cut")
        self.check(rules, rounded, "999500", "end", "burst off cut")
        self.check(rules, rounded, "-1e6", "-end", "burst off cut")
        self.check(rules, rounded, "0e9", "0e+5")
        self.check(rules, rounded, "-0e-9", "-0.0000")
        self.check(rules, rounded, "-0.0", "-0.0")

    def test_all_powers(self):
        for rules in (Rules(3, "half up", -2, 5), Rules(24, "floor"), Rules(1, "five up", 0, 0)):
            for figures in (1, 10, 95, 99, 100, 10 ** 24 - 1, 10 ** 24, 10 ** 60 - 1, 5 * 10 ** 59,
                            123456789 * 10 ** 20):
                for power, sign in itertools.product(range(-200, 201, 3), (0, 1)):
                    wanted = settle(rules, sign, figures * ten(power), power)
                    self.quick(rules, rounded, [plain(sign, figures, power)], *wanted)

    def test_noughts(self):
        for rules in (Rules(3, "half up", -2, 5), Rules(24, "floor"), Rules(1, "five up", 0, 0)):
            for power, sign in itertools.product(range(-200, 201), (0, 1)):
                self.quick(rules, rounded, [plain(sign, 0, power)], *no_worth(rules, sign, power))

    def test_ends_and_nothing(self):
        for way in WAYS:
            rules = Rules(1, way, 0, 0)
            self.check(rules, rounded, [end(0)], "end")
            self.check(rules, rounded, [end(1)], "-end")
            self.check(rules, rounded, [nothing()], NOTHING)

    def test_what_is_no_number(self):
        for thing in no_numbers() + [Number]:
            self.refused(BadNumber, rounded, thing)


if __name__ == "__main__":
    main()
