import itertools
import unittest

from reckoning import NOTHING, ReckonCase, Rules, all_kinds, settle_signed, worth
from strange import no_numbers
from tenreckon.comparing import compared, greater, lesser
from tenreckon.errors import BadNumber
from tenreckon.numbers import Number, end, nothing, plain, told
from tenreckon.texts import read
from tenreckon.ways import WAYS

# From the least to the greatest; those of one row are alike.
ROWS = [[read(text) for text in row.split()] for row in """
-end
-999999999999999999999999999999999999999999999999999999999999e200
-1e200 -10e199 -1000e197
-1e60
-124 -12.4e1
-12300000000000000000000000000000000000000000000000000000001e-56
-123 -123.0 -1.23e2 -123.000000000
-1
-0.1
-1e-199
-1e-200
0 -0 0.0 -0.00 0e200 -0e200 0e-200 -0e-200
1e-200
1e-199 10e-200
0.1 0.10
1 1.0 1.00 0.1e1 100e-2
123 123.0 1.23e2 12300000000000000000000e-20
12300000000000000000000000000000000000000000000000000000001e-56
124
1e60
1e200 10e199 1000e197
999999999999999999999999999999999999999999999999999999999999e200
end +end
""".strip().split("\n")]
PLACED = [(place, number) for place, row in enumerate(ROWS) for number in row]


class ComparedTest(unittest.TestCase):
    def test_all_with_all(self):
        for (place, one), (other_place, other) in itertools.product(PLACED, PLACED):
            before = (told(one), told(other))
            answer = compared(one, other)
            self.assertIs(type(answer), int)
            self.assertEqual(answer, (place > other_place) - (place < other_place), before)
            self.assertEqual((told(one), told(other)), before)

    def test_by_hand(self):
        self.assertEqual(compared(read("1"), read("2")), -1)
        self.assertEqual(compared(read("2"), read("1")), 1)
        self.assertEqual(compared(read("2"), read("2.0")), 0)
        self.assertEqual(compared(read("0"), read("-0")), 0)
        self.assertEqual(compared(end(0), end(0)), 0)
        self.assertEqual(compared(end(1), end(1)), 0)
        self.assertEqual(compared(end(1), end(0)), -1)
        self.assertEqual(compared(end(0), end(1)), 1)

    def test_neighbours(self):
        for figures in (1, 9, 10, 99, 10 ** 24, 10 ** 59, 10 ** 60 - 2):
            for power in (-200, -1, 0, 1, 200):
                for sign, order in ((0, -1), (1, 1)):
                    one, other = plain(sign, figures, power), plain(sign, figures + 1, power)
                    self.assertEqual(compared(one, other), order)
                    self.assertEqual(compared(other, one), -order)

    def test_a_nothing_number(self):
        for other in all_kinds():
            self.assertIsNone(compared(nothing(), other))
            self.assertIsNone(compared(other, nothing()))

    def test_what_is_no_number_at_each_place(self):
        for thing in no_numbers() + [Number]:
            for other in (plain(0, 1, 0), end(0), nothing(), thing):
                for handed in ((thing, other), (other, thing)):
                    with self.assertRaises(BadNumber) as caught:
                        compared(*handed)
                    self.assertIs(type(caught.exception), BadNumber)


class LesserTest(ReckonCase):
    def wanted(self, rules, number):
        if number.kind != "plain":
            return told(number), []
        return settle_signed(rules, number.sign, worth(number), number.power)

    def test_all_with_all(self):
        for rules in (Rules(24, "up"), Rules(2, "half even", -3, 4), Rules(1, "floor", 0, 0)):
            for (place, one), (other_place, other) in itertools.product(PLACED, PLACED):
                less = one if place <= other_place else other
                more = one if place >= other_place else other
                self.quick(rules, lesser, [one, other], *self.wanted(rules, less))
                self.quick(rules, greater, [one, other], *self.wanted(rules, more))

    def test_by_hand(self):
        for way in WAYS:
            rules = Rules(3, way, -3, 4)
            self.check(rules, lesser, "1 2", "1")
            self.check(rules, greater, "1 2", "2")
            self.check(rules, lesser, "2 1", "1")
            self.check(rules, greater, "2 1", "2")
            self.check(rules, lesser, "-1 -2", "-2")
            self.check(rules, greater, "-1 -2", "-1")
            self.check(rules, lesser, "end 1", "1")
            self.check(rules, lesser, "end -end", "-end")
            self.check(rules, greater, "end -end", "end")
            self.check(rules, greater, "1e200 end", "end")
            self.check(rules, lesser, "-end -1e200", "-end")

    def test_of_two_alike_ones_the_first(self):
        for work in (lesser, greater):
            for text in ("1 1.0", "0 -0", "-0.0 0", "10 1e1", "-2e1 -20", "end end"):
                one, other = text.split()
                for first, second in ((one, other), (other, one)):
                    self.check(Rules(3), work, [first, second], first)

    def test_settled_at_its_own_power(self):
        rules = Rules(3, "half up", -3, 4)
        self.check(rules, lesser, "12345 99999", "1.23e+4", "off cut")
        self.check(rules, greater, "12345 12355", "1.24e+4", "off cut")
        self.check(rules, lesser, "1000 1e9", "1.00e+3", "cut")
        self.check(rules, greater, "1e5 1", "end", "burst off cut")
        self.check(rules, lesser, "1e5 1", "1")
        self.check(rules, lesser, "1e-4 1", "0.0001", "faint")
        self.check(rules, lesser, "1.05e-5 1", "0.00001", "sunk faint off cut")
        self.check(rules, lesser, "0e-99 1", "0.00000")
        self.check(rules, greater, "-0e99 -1", "-0e+4")
        # Compared as they are, not as they are told.
        self.check(rules, lesser, "1.0001 1", "1")
        self.check(rules, greater, "1.0001 1", "1.00", "off cut")

    def test_a_nothing_number(self):
        for work, other in itertools.product((lesser, greater), all_kinds()):
            self.check(Rules(1, "up", 0, 0), work, [nothing(), other], NOTHING)
            self.check(Rules(1, "up", 0, 0), work, [other, nothing()], NOTHING)

    def test_what_is_no_number_at_each_place(self):
        for work, thing in itertools.product((lesser, greater), no_numbers() + [Number]):
            for other in (plain(0, 1, 0), end(0), nothing(), thing):
                self.refused(BadNumber, work, thing, other)
                self.refused(BadNumber, work, other, thing)


if __name__ == "__main__":
    unittest.main()
