import itertools
from unittest import main

from reckoning import NOTHING, SOME_RULES, ReckonCase, Rules, Surd, all_kinds, no_worth, settle, settle_signed, worth
from strange import no_numbers, no_wholes
from tenreckon.errors import BadCount, BadNumber
from tenreckon.numbers import Number, end, nothing, plain
from tenreckon.powers import root, to_power
from tenreckon.texts import read
from tenreckon.ways import WAYS



class RootTest(ReckonCase):
    def wanted(self, rules, one):
        return settle(rules, 0, Surd(worth(one)), one.power // 2)

    def test_against_fractions(self):
        roots = (1, 2, 3, 10, 15, 99, 100, 125, 998, 999, 1000, 12345, 10 ** 24 - 1, 10 ** 29)
        squares = [number ** 2 for number in roots]
        figures = sorted({square + step for square in squares for step in (-1, 0, 1)} | {2, 3, 5, 10, 10 ** 60 - 1})
        for rules, figure in itertools.product(SOME_RULES, figures):
            for power in (-200, -199, -61, -13, -3, -2, -1, 0, 1, 2, 3, 18, 19, 121, 199, 200):
                if 0 < figure < 10 ** 60:
                    one = plain(0, figure, power)
                    self.quick(rules, root, [one], *self.wanted(rules, one))

    def test_squares(self):
        rules = Rules(4, least=-9, most=9)
        self.check(rules, root, "4", "2")
        self.check(rules, root, "4.00", "2.0")
        self.check(rules, root, "4.0", "2.0")
        self.check(rules, root, "400", "20")
        self.check(rules, root, "4e2", "2e+1")
        self.check(rules, root, "4e6", "2e+3")
        self.check(rules, root, "40e5", "2.0e+3")
        self.check(rules, root, "0.0625", "0.25")
        self.check(rules, root, "152.2756", "12.34")
        self.check(rules, root, "1", "1")
        self.check(rules, root, "1.000000", "1.000")
        self.check(rules, root, "1.00000000", "1.000", "cut")
        self.check(rules, root, "1e-20", "1e-10", "faint")
        self.check(rules, root, "1e20", "end", "burst off cut")

    def test_one_more_and_one_less(self):
        self.each_way(Rules(3), root, "10001", "100 101 100 101 100 100 100 101", "off cut")
        self.each_way(Rules(3), root, "9999", "99.9 100 99.9 100 100 100 100 99.9", "off cut")
        self.each_way(Rules(2), root, "225", "15 15 15 15 15 15 15 15")
        self.each_way(Rules(1), root, "225", "1e+1 2e+1 1e+1 2e+1 2e+1 1e+1 2e+1 1e+1", "off cut")
        self.each_way(Rules(1), root, "625", "2e+1 3e+1 2e+1 3e+1 3e+1 2e+1 2e+1 2e+1", "off cut")
        self.each_way(Rules(1), root, "626", "2e+1 3e+1 2e+1 3e+1 3e+1 3e+1 3e+1 2e+1", "off cut")
        self.each_way(Rules(1), root, "624", "2e+1 3e+1 2e+1 3e+1 2e+1 2e+1 2e+1 2e+1", "off cut")

    def test_odd_and_even_powers(self):
        rules = Rules(5)
        self.check(rules, root, "1e1", "3.1623", "off cut")
        self.check(rules, root, "1e-1", "0.31623", "off cut")
        self.check(rules, root, "1e-3", "0.031623", "off cut")
        self.check(rules, root, "1e-2", "0.1")
        self.check(rules, root, "10e-1", "1.0")
        self.check(rules, root, "10e1", "10")
        self.check(rules, root, "1000e-3", "1.00")
        self.check(rules, root, "1e-200", "0e-64", "sunk faint off cut")

    def test_noughts(self):
        rules = Rules(4, least=-9, most=9)
        for sign, mark in ((0, ""), (1, "-")):
            for power in range(-30, 31):
                wanted = no_worth(rules, sign, power // 2)
                self.check(rules, root, [plain(sign, 0, power)], *wanted)
            self.check(rules, root, mark + "0", mark + "0")
            self.check(rules, root, mark + "0e-1", mark + "0.0")
            self.check(rules, root, mark + "0e-2", mark + "0.0")
            self.check(rules, root, mark + "0e-3", mark + "0.00")
            self.check(rules, root, mark + "0e3", mark + "0e+1")
            self.check(rules, root, mark + "0e-200", mark + "0e-12")
            self.check(rules, root, mark + "0e200", mark + "0e+9")

    def test_below_nought(self):
        for way in WAYS:
            for text in ("-1", "-4", "-0.0001", "-1e200", "-1e-200", "-end"):
                self.check(Rules(way=way), root, [text], "none", "void")

    def test_the_end_above_nought(self):
        for way in WAYS:
            self.check(Rules(1, way, 0, 0), root, "end", "end")

    def test_a_nothing_number(self):
        self.check(Rules(), root, "none", "none")

    def test_what_is_no_number(self):
        for thing in no_numbers() + [Number]:
            self.refused(BadNumber, root, thing)

    def test_the_square_of_an_exact_root_is_the_number(self):
        for figures, power in itertools.product(range(1, 400), (-3, -2, 0, 1)):
            context = Rules(6).context()
            one = plain(0, figures, power)
            told_root = root(context, one)
            if "off" not in context.flags():
                self.assertEqual(worth(told_root) ** 2, worth(one))
            else:
                self.assertNotEqual(worth(told_root) ** 2, worth(one))


class PowerTest(ReckonCase):
    def wanted(self, rules, one, count):
        return settle_signed(rules, one.sign * (count % 2), worth(one) ** count, count * one.power)

    def test_against_fractions(self):
        some = "1 -1 1.0 2 -3 0.5 9.99 -12345 1000 1e3 -0.00012345 99999 1e60 -7e-60 123456789012345678901234 9e59"
        for rules, text in itertools.product(SOME_RULES, some.split()):
            for count in range(-20, 21):
                one = read(text)
                self.quick(rules, to_power, [one, count], *self.wanted(rules, one, count))

    def test_far_ones(self):
        for sign, power in itertools.product((0, 1), (-60, 60)):
            one = plain(sign, 10 ** 24 - 1, power)
            for count in (-20, -19, -1, 0, 1, 19, 20):
                for rules in SOME_RULES:
                    self.check(rules, to_power, [one, count], *self.wanted(rules, one, count))

    def test_by_hand(self):
        rules = Rules(4, least=-9, most=9)
        self.check(rules, to_power, ["2", 10], "1024")
        self.check(rules, to_power, ["-2", 3], "-8")
        self.check(rules, to_power, ["-2", 4], "16")
        self.check(rules, to_power, ["1.5", 2], "2.25")
        self.check(rules, to_power, ["1.50", 2], "2.250", "cut")
        self.check(rules, to_power, ["2", -1], "0.5")
        self.check(rules, to_power, ["-2", -3], "-0.125")
        self.check(rules, to_power, ["2.0", -1], "0.5")
        self.check(rules, to_power, ["20", -1], "0.05")
        self.check(rules, to_power, ["1e3", -2], "0.000001")
        self.check(rules, to_power, ["0.1", -1], "1e+1")
        self.check(rules, to_power, ["1e1", 9], "1e+9")
        self.check(rules, to_power, ["1e1", 10], "end", "burst off cut")
        self.check(rules, to_power, ["-1e1", 11], "-end", "burst off cut")
        self.check(rules, to_power, ["1e1", -10], "1e-10", "faint")
        self.check(rules, to_power, ["1e1", -20], "0e-12", "sunk faint off cut")
        self.check(rules, to_power, ["7", 1], "7")
        self.check(rules, to_power, ["12345", 1], "1.234e+4", "off cut")

    def test_each_way(self):
        self.each_way(Rules(3), to_power, ["3", -1], "0.333 0.334 0.333 0.334 0.333 0.333 0.333 0.333", "off cut")
        self.each_way(Rules(3), to_power, ["-7", 5],
                      "-1.68e+4 -1.69e+4 -1.69e+4 -1.68e+4 -1.68e+4 -1.68e+4 -1.68e+4 -1.68e+4", "off cut")

    def test_rounded_once(self):
        # By steps they would be 1.51, from 1.23 times 1.23, and 0.0071, from 1 by 140.
        self.check(Rules(3), to_power, ["1.11", 4], "1.52", "off cut")
        self.check(Rules(2), to_power, ["12", -2], "0.0069", "off cut")

    def test_by_nought(self):
        for way in WAYS:
            rules = Rules(1, way, 0, 0)
            for text in ("1", "-1", "7e60", "-3e-60", "12345", "end", "-end"):
                self.check(rules, to_power, [text, 0], "1")
            for text in ("0", "-0", "0e9", "-0e-9"):
                self.check(rules, to_power, [text, 0], "none", "void")

    def test_nought(self):
        rules = Rules(4, least=-9, most=9)
        for count in range(1, 21):
            odd = count % 2 == 1
            for power in (-60, -2, 0, 1, 60):
                self.check(rules, to_power, [plain(0, 0, power), count], *no_worth(rules, 0, count * power))
                self.check(rules, to_power, [plain(1, 0, power), count], *no_worth(rules, int(odd), count * power))
                self.check(rules, to_power, [plain(0, 0, power), -count], "end", "split")
                self.check(rules, to_power, [plain(1, 0, power), -count], "-end" if odd else "end", "split")

    def test_ends(self):
        rules = Rules(4, "down", least=-9, most=9)
        for count in range(1, 21):
            mark = "-" if count % 2 == 1 else ""
            self.check(rules, to_power, ["end", count], "end")
            self.check(rules, to_power, ["-end", count], mark + "end")
            self.check(rules, to_power, ["end", -count], "0e-12")
            self.check(rules, to_power, ["-end", -count], mark + "0e-12")

    def test_a_nothing_number(self):
        for count in range(-20, 21):
            self.check(Rules(), to_power, [nothing(), count], NOTHING)

    def test_counts_at_and_beyond_the_bounds(self):
        for number in all_kinds():
            for count in (-20, -1, 0, 1, 20):
                to_power(Rules().context(), number, count)
            for count in (-21, 21, -22, 22, 100, -100, 10 ** 5000, -10 ** 5000):
                self.refused(BadCount, to_power, number, count)

    def test_counts_of_other_kinds(self):
        for thing in no_wholes() + [plain(0, 1, 0)]:
            for number in (plain(0, 2, 0), plain(0, 0, 0), end(1), nothing()):
                self.refused(BadCount, to_power, number, thing)

    def test_no_number_ahead_of_no_count(self):
        for thing in no_numbers() + [Number]:
            for count in (0, 1, 21, None, True, "1", thing):
                self.refused(BadNumber, to_power, thing, count)


if __name__ == "__main__":
    main()
