import decimal
import itertools
import re
import unittest

from strange import no_numbers, no_texts
from tenreckon.errors import BadNumber, NoText
from tenreckon.numbers import Number, end, nothing, plain, told
from tenreckon.texts import read, written

NINES = "9" * 60
FIGURES = (0, 1, 5, 9, 10, 12, 100, 120, 1234567, 10 ** 59, 10 ** 60 - 1, int("1" + "0" * 29 + "1" * 30))


class WrittenTest(unittest.TestCase):
    def check(self, sign, figures, power, wanted):
        self.assertEqual(written(plain(sign, figures, power)), wanted)

    def test_the_documents_own(self):
        self.check(0, 12, -4, "0.0012")
        self.check(0, 12, 0, "12")
        self.check(0, 12, 3, "1.2e+4")
        self.check(0, 0, 2, "0e+2")
        self.check(1, 5, -9, "-5e-9")
        self.check(0, 0, -3, "0.000")

    def test_those_that_are_not_plain(self):
        self.assertEqual(written(nothing()), "none")
        self.assertEqual(written(end(0)), "end")
        self.assertEqual(written(end(1)), "-end")

    def test_power_nought_and_one(self):
        self.check(0, 7, 0, "7")
        self.check(1, 7, 0, "-7")
        self.check(0, 7, 1, "7e+1")
        self.check(1, 7, 1, "-7e+1")
        self.check(0, 120, 0, "120")
        self.check(0, 120, 1, "1.20e+3")
        self.check(1, 120, 1, "-1.20e+3")
        self.check(0, int(NINES), 0, NINES)
        self.check(0, int(NINES), 1, "9." + "9" * 59 + "e+60")

    def test_lead_six_and_seven_below(self):
        self.check(0, 5, -6, "0.000005")
        self.check(1, 5, -6, "-0.000005")
        self.check(0, 5, -7, "5e-7")
        self.check(1, 5, -7, "-5e-7")
        self.check(0, 12, -7, "0.0000012")
        self.check(0, 12, -8, "1.2e-7")
        self.check(0, 10, -7, "0.0000010")
        self.check(0, 10, -8, "1.0e-7")
        self.check(0, int(NINES), -65, "0.00000" + NINES)
        self.check(1, int(NINES), -66, "-9." + "9" * 59 + "e-7")

    def test_nought(self):
        self.check(0, 0, 0, "0")
        self.check(1, 0, 0, "-0")
        self.check(0, 0, 1, "0e+1")
        self.check(1, 0, 1, "-0e+1")
        self.check(0, 0, -1, "0.0")
        self.check(1, 0, -1, "-0.0")
        self.check(0, 0, -6, "0.000000")
        self.check(1, 0, -6, "-0.000000")
        self.check(0, 0, -7, "0e-7")
        self.check(1, 0, -7, "-0e-7")
        self.check(0, 0, 200, "0e+200")
        self.check(0, 0, -200, "0e-200")

    def test_the_point_within_and_at_the_first_figure(self):
        self.check(0, 12345, -1, "1234.5")
        self.check(0, 12345, -4, "1.2345")
        self.check(1, 12345, -5, "-0.12345")
        self.check(0, 12345, -6, "0.012345")
        self.check(0, 1000, -3, "1.000")

    def test_the_farthest_powers(self):
        self.check(0, 1, 200, "1e+200")
        self.check(1, 1, -200, "-1e-200")
        self.check(0, int(NINES), 200, "9." + "9" * 59 + "e+259")
        self.check(0, int(NINES), -200, "9." + "9" * 59 + "e-141")

    def test_all_powers_against_pythons_decimal(self):
        for sign, figures, power in itertools.product((0, 1), FIGURES, range(-200, 201)):
            digits = tuple(int(digit) for digit in str(figures))
            wanted = str(decimal.Decimal((sign, digits, power))).lower()
            self.check(sign, figures, power, wanted)

    def test_a_number_is_not_changed(self):
        number = plain(1, 12, -4)
        written(number)
        self.assertEqual(told(number), ("plain", 1, 12, -4))

    def test_what_is_no_number_is_refused(self):
        for thing in no_numbers() + [Number]:
            with self.assertRaises(BadNumber) as caught:
                written(thing)
            self.assertIs(type(caught.exception), BadNumber)


class ReadTest(unittest.TestCase):
    def check(self, text, sign, figures, power):
        number = read(text)
        self.assertIs(type(number), Number)
        self.assertEqual(told(number), ("plain", sign, figures, power), text)

    def refused(self, text):
        with self.assertRaises(NoText, msg=repr(text)[:80]) as caught:
            read(text)
        self.assertIs(type(caught.exception), NoText)

    def test_none(self):
        for text in ("none", "NONE", "None", "nOnE", " none", "none  ", "   NoNe "):
            self.assertEqual(told(read(text)), ("none", 0, 0, 0))
        for text in ("+none", "-none", "- none", "non", "nonee", "no ne", "none.", "none0", "nonee1", "nan"):
            self.refused(text)

    def test_end(self):
        for text in ("end", "END", "End", "eNd", "+end", "+END", " end", "end ", "  +eND  "):
            self.assertEqual(told(read(text)), ("end", 0, 0, 0))
        for text in ("-end", "-END", "-End", " -end", "-end ", "  -eND  "):
            self.assertEqual(told(read(text)), ("end", 1, 0, 0))
        for text in ("++end", "--end", "+-end", "-+end", "- end", "+ end", "en", "ends", "e nd", "end1", "1end",
                     "inf", "infinity", "end+", "end-", "ende1", ".end"):
            self.refused(text)

    def test_signs_and_figures(self):
        self.check("0", 0, 0, 0)
        self.check("+0", 0, 0, 0)
        self.check("-0", 1, 0, 0)
        self.check("12", 0, 12, 0)
        self.check("+12", 0, 12, 0)
        self.check("-12", 1, 12, 0)
        self.check("1234567890", 0, 1234567890, 0)
        for text in ("++1", "--1", "+-1", "-+1", "1+", "1-", "1+1", "1-1", "+", "-", "+ 1", "- 1"):
            self.refused(text)

    def test_the_point(self):
        self.check("1.5", 0, 15, -1)
        self.check("-1.50", 1, 150, -2)
        self.check(".5", 0, 5, -1)
        self.check("+.5", 0, 5, -1)
        self.check("-.05", 1, 5, -2)
        self.check("5.", 0, 5, 0)
        self.check("-5.", 1, 5, 0)
        self.check("0.000", 0, 0, -3)
        self.check("-.0", 1, 0, -1)
        self.check("0.", 0, 0, 0)
        for text in (".", "+.", "-.", "..", "1..", "..1", "1.2.3", ".1.", "1..2", ".e1", "-.e1", "1,5", "1_000"):
            self.refused(text)

    def test_the_power(self):
        for letter in "eE":
            self.check("1" + letter + "5", 0, 1, 5)
            self.check("1" + letter + "+5", 0, 1, 5)
            self.check("1" + letter + "-5", 0, 1, -5)
            self.check("-1" + letter + "05", 1, 1, 5)
            self.check("1" + letter + "+005", 0, 1, 5)
            self.check("1" + letter + "-005", 0, 1, -5)
            self.check("1.25" + letter + "3", 0, 125, 1)
            self.check("1.25" + letter + "-3", 0, 125, -5)
            self.check(".5" + letter + "12", 0, 5, 11)
            self.check("5." + letter + "12", 0, 5, 12)
            self.check("-0" + letter + "-12", 1, 0, -12)
        self.check("1e0", 0, 1, 0)
        self.check("1e-0", 0, 1, 0)
        self.check("1e000", 0, 1, 0)

    def test_the_power_wrong(self):
        for text in ("1e", "1E", "1e+", "1e-", "1.e", "1e++5", "1e--5", "1e+-5", "1e-+5", "1e5+", "1ee5", "1e5e5",
                     "1e1.0", "1e.5", "1e5.", "e5", "E5", "+e5", "-e", "e", "1e0005", "1e+0005", "1e-0000", "1e1000",
                     "1e0000", "1x5", "1d5", "1f5", "e1e", "0e", "1e5f", "0x10", "1e5_0", "#"):
            self.refused(text)

    def test_blanks(self):
        self.check(" 1", 0, 1, 0)
        self.check("1 ", 0, 1, 0)
        self.check("     -1.5e-3     ", 1, 15, -4)
        for text in ("", " ", "     ", "1 2", "- 1", "1 .5", "1. 5", "1 e5", "1e 5", "1e- 5", "1e5 0", "+ ", " -"):
            self.refused(text)

    def test_other_blanks_than_the_blank(self):
        for blank in ("\t", "\n", "\r", "\v", "\f", "\0", "\x1c", "\x1f", "\x7f", "_", "'"):
            for text in ("1", "-1.5e3", "none", "end", "-end", "1e5", ""):
                self.refused(blank + text)
                self.refused(text + blank)
                self.refused(" " + text + blank + " ")
            self.refused("1" + blank + "2")
            self.refused("1e" + blank + "2")

    def test_other_signs_of_ascii(self):
        for sign in map(chr, range(128)):
            if sign not in " +-.0123456789":
                for text in (sign, sign + "1", "1" + sign, "1" + sign + ".5", "1e" + sign, sign + "end", "none" + sign):
                    self.refused(text)

    def test_noughts_ahead(self):
        self.check("007", 0, 7, 0)
        self.check("-000", 1, 0, 0)
        self.check("00.0070", 0, 70, -4)
        self.check("0" * 100 + NINES, 0, int(NINES), 0)
        self.check("0" * 10000, 0, 0, 0)
        self.check("-" + "0" * 10000 + "12.5", 1, 125, -1)

    def test_sixty_figures_and_one_more(self):
        for digits in (NINES, "1" + "0" * 59, "1" * 60):
            self.check(digits, 0, int(digits), 0)
            self.check("000" + digits, 0, int(digits), 0)
            self.check(digits[:20] + "." + digits[20:], 0, int(digits), -40)
            self.check("." + digits, 0, int(digits), -60)
            self.check("-0.000" + digits, 1, int(digits), -63)
            self.check(digits + ".", 0, int(digits), 0)
        for digits in ("9" * 61, "1" + "0" * 60, "1" * 61, "7" * 10000):
            for text in (digits, "-" + digits, "000" + digits, "." + digits, digits + ".", "0.000" + digits,
                         digits + "e1", digits[:20] + "." + digits[20:]):
                self.refused(text)

    def test_the_farthest_powers(self):
        for figures in ("0", "7", NINES):
            self.check(figures + "e200", 0, int(figures), 200)
            self.check(figures + "e+200", 0, int(figures), 200)
            self.check("-" + figures + "e-200", 1, int(figures), -200)
            for power in ("201", "+201", "-201", "999", "-999", "+999"):
                self.refused(figures + "e" + power)

    def test_the_farthest_powers_with_figures_behind_the_point(self):
        self.check("1.25e202", 0, 125, 200)
        self.refused("1.25e203")
        self.check("1.25e-198", 0, 125, -200)
        self.refused("1.25e-199")
        self.check("1.e200", 0, 1, 200)
        self.refused("1.e201")
        self.check("." + "0" * 200, 0, 0, -200)
        self.refused("." + "0" * 201)
        self.check("." + "0" * 199 + "1", 0, 1, -200)
        self.refused("." + "0" * 200 + "1")
        self.check("-0." + "0" * 799 + "e999", 1, 0, 200)
        self.refused("-0." + "0" * 798 + "e999")
        self.check("0." + "0" * 1198 + "1e999", 0, 1, -200)
        self.refused("0." + "0" * 1199 + "1e999")
        self.refused("0." + "0" * 10000)

    def test_what_is_no_text_is_refused(self):
        for thing in no_texts() + [nothing(), plain(0, 1, 0), end(1)]:
            with self.assertRaises(NoText) as caught:
                read(thing)
            self.assertIs(type(caught.exception), NoText)

    def test_short_texts_against_a_pattern(self):
        pattern = re.compile(r" *([+-]?)(?:([0-9]+)(?:\.([0-9]*))?|\.([0-9]+))(?:[eE]([+-]?[0-9]{1,3}))? *\Z")
        for length in range(7):
            for signs in itertools.product("07.e- ", repeat=length):
                text = "".join(signs)
                match = pattern.match(text)
                if match is None:
                    self.refused(text)
                    continue
                behind = match[3] or match[4] or ""
                power = int(match[5] or 0) - len(behind)
                if abs(power) > 200:
                    self.refused(text)
                else:
                    self.check(text, int(match[1] == "-"), int((match[2] or "") + behind), power)


class BothTest(unittest.TestCase):
    def check(self, number):
        self.assertEqual(told(read(written(number))), told(number))
        self.assertEqual(told(read("  " + written(number).upper() + " ")), told(number))

    def test_written_and_read_again(self):
        for number in (nothing(), end(0), end(1)):
            self.check(number)
        for sign, figures, power in itertools.product((0, 1), FIGURES, range(-200, 201)):
            self.check(plain(sign, figures, power))


if __name__ == "__main__":
    unittest.main()
