import itertools
import math
import unittest
from fractions import Fraction

from tenreckon.exact import Exact, Ratio, Root

LONG = int("31415926535897932384626433832795028841971" * 8)
TOPS = (1, 2, 3, 5, 7, 9, 10, 11, 15, 25, 99, 100, 101, 125, 999, 1000, 1001, 4 * 10 ** 23, 10 ** 60 - 1, 10 ** 60,
        10 ** 60 + 1, 10 ** 400 - 1, 10 ** 400, 10 ** 400 + 1, 5 * 10 ** 300, LONG, LONG * LONG)
BOTTOMS = (1, 2, 3, 4, 7, 8, 9, 10, 11, 99, 100, 101, 10 ** 60 - 1, 10 ** 60, 10 ** 400 - 1, 10 ** 400 + 1, LONG)
POWERS = (-2000, -1999, -401, -200, -61, -3, -2, -1, 0, 1, 2, 3, 60, 199, 400, 1999, 2000)


def ten(power):
    return Fraction(10) ** power


def part_of(left):
    """The part of what is left of one: none, below the middle, the middle, above it."""
    return 0 if left == 0 else 1 if left < Fraction(1, 2) else 2 if left == Fraction(1, 2) else 3


class ExactCase(unittest.TestCase):
    def pair(self, exact, power):
        pair = exact.at(power)
        self.assertIs(type(pair), tuple)
        self.assertEqual([type(thing) for thing in pair], [int, int])
        self.assertEqual(exact.at(power), pair)
        return pair

    def lead(self, exact):
        lead = exact.first()
        self.assertIs(type(lead), int)
        self.assertEqual(exact.first(), lead)
        return lead


class RatioTest(ExactCase):
    def check(self, top, bottom, power, reach=(-30, -1, 0, 1, 2, 30)):
        exact = Ratio(top, bottom, power)
        worth = Fraction(top, bottom) * ten(power)
        lead = self.lead(exact)
        self.assertTrue(ten(lead) <= worth < ten(lead + 1), (top, bottom, power))
        for step in reach:
            times = worth / ten(lead + step)
            whole = times.numerator // times.denominator
            self.assertEqual(self.pair(exact, lead + step), (whole, part_of(times - whole)), (top, bottom, power, step))
        self.assertEqual(exact.first(), lead)

    def test_a_class_under_the_base(self):
        self.assertEqual(Ratio.__bases__, (Exact,))

    def test_by_hand(self):
        self.assertEqual(Ratio(1, 3).first(), -1)
        self.assertEqual(Ratio(1, 3).at(-2), (33, 1))
        self.assertEqual(Ratio(2, 3).at(-2), (66, 3))
        self.assertEqual(Ratio(1, 8).at(-2), (12, 2))
        self.assertEqual(Ratio(1, 8).at(-3), (125, 0))
        self.assertEqual(Ratio(1, 8).at(-4), (1250, 0))
        self.assertEqual(Ratio(1, 8).at(0), (0, 1))
        self.assertEqual(Ratio(1, 2).at(0), (0, 2))
        self.assertEqual(Ratio(51, 100).at(0), (0, 3))
        self.assertEqual(Ratio(49, 100).at(0), (0, 1))
        self.assertEqual(Ratio(125, 1, 3).first(), 5)
        self.assertEqual(Ratio(125, 1, 3).at(3), (125, 0))
        self.assertEqual(Ratio(125, 1, 3).at(4), (12, 2))
        self.assertEqual(Ratio(125, 1, 3).at(6), (0, 1))
        self.assertEqual(Ratio(7, 1, -2000).at(-1999), (0, 3))
        self.assertEqual(Ratio(7, 1, -2000).first(), -2000)

    def test_the_power_left_out_and_by_name(self):
        self.assertEqual(Ratio(12, 5).at(-1), (24, 0))
        self.assertEqual(Ratio(12, 5, power=1).at(0), (24, 0))
        self.assertEqual(Ratio(top=12, bottom=5, power=1).first(), 1)

    def test_all_together(self):
        for top, bottom, power in itertools.product(TOPS, BOTTOMS, (-2000, -1, 0, 1, 2000)):
            self.check(top, bottom, power, (-2, -1, 0, 1))

    def test_powers(self):
        for power in POWERS:
            for top, bottom in ((1, 1), (9, 10), (10, 9), (99, 100), (100, 99), (1, 3), (LONG, 7), (7, LONG)):
                self.check(top, bottom, power)

    def test_each_part_at_its_edges(self):
        for whole in (0, 1, 9, 10, 999, 10 ** 24 - 1, 10 ** 24):
            for bottom in (2, 4, 10 ** 60, 2 * LONG):
                half = bottom // 2
                for left, part in ((0, 0), (1, 1 if half > 1 else 2), (half, 2), (half - 1, 1), (half + 1, 3)):
                    top = whole * bottom + left
                    if top > 0 and 0 < left < bottom:
                        self.assertEqual(self.pair(Ratio(top, bottom), 0), (whole, part))
                        self.assertEqual(self.pair(Ratio(top, bottom, -7), -7), (whole, part))
                        self.assertEqual(self.pair(Ratio(top, bottom, 9), 9), (whole, part))

    def test_far_powers(self):
        self.assertEqual(self.pair(Ratio(LONG, 1, 2000), -2000), (LONG * 10 ** 4000, 0))
        self.assertEqual(self.pair(Ratio(LONG, 1, -2000), 2000), (0, 1))
        self.assertEqual(self.pair(Ratio(1, 3, 2000), -2000), (10 ** 4000 // 3, 1))
        self.assertEqual(self.pair(Ratio(2, 3, 2000), -2000), (2 * 10 ** 4000 // 3, 3))
        self.assertEqual(Ratio(10 ** 5000, 1, 2000).first(), 7000)
        self.assertEqual(Ratio(10 ** 5000 - 1, 1, 2000).first(), 6999)
        self.assertEqual(Ratio(1, 10 ** 5000, -2000).first(), -7000)
        self.assertEqual(Ratio(1, 10 ** 5000 + 1, -2000).first(), -7001)


class RootTest(ExactCase):
    def check(self, top, power, reach=(-30, -1, 0, 1, 2, 30)):
        exact = Root(top, power)
        square = top * ten(power)
        lead = self.lead(exact)
        self.assertTrue(ten(2 * lead) <= square < ten(2 * lead + 2), (top, power))
        for step in reach:
            times = square / ten(2 * (lead + step))
            whole = math.isqrt(times.numerator // times.denominator)
            middle = (whole + Fraction(1, 2)) ** 2
            part = 0 if times == whole ** 2 else 1 if times < middle else 2 if times == middle else 3
            self.assertEqual(self.pair(exact, lead + step), (whole, part), (top, power, step))
        self.assertEqual(exact.first(), lead)

    def test_a_class_under_the_base(self):
        self.assertEqual(Root.__bases__, (Exact,))

    def test_by_hand(self):
        self.assertEqual(Root(2).first(), 0)
        self.assertEqual(Root(2).at(0), (1, 1))
        self.assertEqual(Root(2).at(-4), (14142, 1))
        self.assertEqual(Root(3).at(0), (1, 3))
        self.assertEqual(Root(4).at(0), (2, 0))
        self.assertEqual(Root(4).at(1), (0, 1))
        self.assertEqual(Root(25).at(1), (0, 2))
        self.assertEqual(Root(36).at(1), (0, 3))
        self.assertEqual(Root(225).at(1), (1, 2))
        self.assertEqual(Root(10).at(-1), (31, 3))
        self.assertEqual(Root(1, 1).at(-1), (31, 3))
        self.assertEqual(Root(1, -1).at(-2), (31, 3))
        self.assertEqual(Root(1, -1).first(), -1)
        self.assertEqual(Root(1, -3).first(), -2)
        self.assertEqual(Root(9, -2).at(-1), (3, 0))
        self.assertEqual(Root(99, 0).first(), 0)
        self.assertEqual(Root(100, 0).first(), 1)

    def test_the_power_left_out_and_by_name(self):
        self.assertEqual(Root(16).at(0), (4, 0))
        self.assertEqual(Root(16, power=2).at(0), (40, 0))
        self.assertEqual(Root(top=16, power=2).first(), 1)

    def test_all_together(self):
        for top, power in itertools.product(TOPS, POWERS):
            self.check(top, power, (-2, -1, 0, 1))

    def test_powers(self):
        for power in POWERS:
            for top in (1, 2, 10, 99, 100, LONG):
                self.check(top, power)

    def test_about_squares(self):
        for root in (1, 2, 3, 9, 10, 11, 15, 99, 100, 999999999, 10 ** 24 - 1, 10 ** 24, 10 ** 30 + 5, LONG):
            for power in (-2000, -4, 0, 6, 2000):
                self.assertEqual(self.pair(Root(root ** 2, power), power // 2), (root, 0))
                self.assertEqual(self.pair(Root(root ** 2 + 1, power), power // 2), (root, 1))
                below = root ** 2 - 1
                if below > 0:
                    self.assertEqual(self.pair(Root(below, power), power // 2), (root - 1, 3))

    def test_about_the_middle_between_two_squares(self):
        for root in (0, 1, 2, 9, 10, 99, 100, 999999999, 10 ** 24 - 1, 10 ** 24, LONG):
            # The middle's square, by hundreds: (10 * root + 5) ** 2.
            middle = (10 * root + 5) ** 2
            for power in (-2000, -2, 0, 2, 1998):
                place = power // 2 + 1
                self.assertEqual(self.pair(Root(middle - 1, power), place), (root, 1))
                self.assertEqual(self.pair(Root(middle, power), place), (root, 2))
                self.assertEqual(self.pair(Root(middle + 1, power), place), (root, 3))
            # Of whole numbers, the last below and the first above the middle.
            if root > 0:
                self.assertEqual(self.pair(Root(root * (root + 1)), 0), (root, 1))
                self.assertEqual(self.pair(Root(root * (root + 1) + 1), 0), (root, 3))

    def test_small_ones_each(self):
        for top in range(1, 1200):
            for power in (-3, -2, -1, 0, 1):
                self.check(top, power, (-1, 0, 1))

    def test_far_powers(self):
        self.assertEqual(self.pair(Root(LONG ** 2, 2000), -2000), (LONG * 10 ** 3000, 0))
        self.assertEqual(self.pair(Root(2, -2000), 2000), (0, 1))
        twice = math.isqrt(8 * 10 ** 6000)
        self.assertEqual(self.pair(Root(2, 2000), -2000), (twice // 2, 3 if twice % 2 == 1 else 1))
        self.assertEqual(Root(10 ** 5000, 2000).first(), 3500)
        self.assertEqual(Root(10 ** 5000 - 1, 2000).first(), 3499)


if __name__ == "__main__":
    unittest.main()
