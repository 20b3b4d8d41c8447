import unittest

from strange import no_numbers, no_wholes
from tenreckon.errors import BadNumber
from tenreckon.numbers import Number, end, lead_of, need_number, nothing, plain, told

NINES = 10 ** 60 - 1


def values(number):
    return (number.kind, number.sign, number.figures, number.power)


class NumbersTest(unittest.TestCase):
    def refused(self, work, *handed):
        with self.assertRaises(BadNumber) as caught:
            work(*handed)
        self.assertIs(type(caught.exception), BadNumber)

    def both_ways(self, number, wanted):
        self.assertIs(type(number), Number)
        self.assertEqual(values(number), wanted)
        self.assertEqual(told(number), wanted)
        self.assertIs(type(told(number)), tuple)

    def test_plain_ones_within_the_bounds(self):
        for sign in (0, 1):
            for figures in (0, 1, 9, 10, 12000, 10 ** 59, NINES - 1, NINES):
                for power in (-200, -199, -1, 0, 1, 199, 200):
                    self.both_ways(plain(sign, figures, power), ("plain", sign, figures, power))

    def test_plain_ones_beyond_the_bounds(self):
        for sign in (-1, 2, 3, -2, 10 ** 5000, -10 ** 5000):
            self.refused(plain, sign, 1, 0)
        for figures in (-1, -2, NINES + 1, NINES + 2, -NINES, 10 ** 61, 10 ** 5000, -10 ** 5000):
            self.refused(plain, 0, figures, 0)
            self.refused(plain, 1, figures, 0)
        for power in (-201, 201, -202, 202, 10 ** 5000, -10 ** 5000):
            self.refused(plain, 0, 1, power)
            self.refused(plain, 1, 0, power)

    def test_plain_ones_of_other_kinds(self):
        for thing in no_wholes():
            self.refused(plain, thing, 1, 0)
            self.refused(plain, 0, thing, 0)
            self.refused(plain, 0, 1, thing)
            self.refused(plain, thing, thing, thing)
        self.refused(plain, nothing(), 1, 0)
        self.refused(plain, 0, plain(0, 1, 0), 0)
        self.refused(plain, 0, 1, end(0))

    def test_nought_has_a_sign(self):
        self.both_ways(plain(0, 0, 0), ("plain", 0, 0, 0))
        self.both_ways(plain(1, 0, 0), ("plain", 1, 0, 0))
        self.both_ways(plain(1, 0, -200), ("plain", 1, 0, -200))

    def test_ends(self):
        self.both_ways(end(0), ("end", 0, 0, 0))
        self.both_ways(end(1), ("end", 1, 0, 0))
        for sign in (-1, 2, 10 ** 5000, -10 ** 5000):
            self.refused(end, sign)
        for thing in no_wholes() + [end(0), plain(0, 1, 0), nothing()]:
            self.refused(end, thing)

    def test_the_nothing_number(self):
        self.both_ways(nothing(), ("none", 0, 0, 0))

    def test_figures_are_kept_as_they_are(self):
        self.assertNotEqual(told(plain(0, 10, 0)), told(plain(0, 1, 1)))
        self.assertNotEqual(told(plain(0, 0, 0)), told(plain(1, 0, 0)))
        self.assertNotEqual(told(plain(0, 0, 0)), told(plain(0, 0, 1)))

    def test_told_is_of_numbers_alone(self):
        for thing in no_numbers() + [Number]:
            self.refused(told, thing)

    def test_need_number_tells_the_very_thing(self):
        for number in (plain(0, 12, -3), plain(1, 0, 0), end(0), end(1), nothing()):
            before = values(number)
            self.assertIs(need_number(number), number)
            self.assertEqual(told(number), before)
            self.assertEqual(values(number), before)

    def test_need_number_refuses_what_is_none(self):
        for thing in no_numbers() + [Number]:
            self.refused(need_number, thing)

    def test_a_refusal_changes_nothing(self):
        handed = [1, 2]
        self.refused(plain, 0, handed, 0)
        self.refused(told, handed)
        self.assertEqual(handed, [1, 2])

    def test_lead(self):
        for figures in (1, 5, 9):
            for power in (-200, -1, 0, 1, 200):
                self.assertEqual(lead_of(plain(0, figures, power)), power)
        self.assertEqual(lead_of(plain(0, 10, 0)), 1)
        self.assertEqual(lead_of(plain(1, 99, 0)), 1)
        self.assertEqual(lead_of(plain(0, 12, -4)), -3)
        self.assertEqual(lead_of(plain(0, 12000, -4)), 0)
        self.assertEqual(lead_of(plain(1, 100, 7)), 9)

    def test_lead_of_many_figures(self):
        for figures in (10 ** 59, 10 ** 59 + 1, NINES):
            self.assertEqual(lead_of(plain(0, figures, 0)), 59)
            self.assertEqual(lead_of(plain(1, figures, 200)), 259)
            self.assertEqual(lead_of(plain(0, figures, -200)), -141)
        self.assertEqual(lead_of(plain(0, 10 ** 59 - 1, 0)), 58)


if __name__ == "__main__":
    unittest.main()
