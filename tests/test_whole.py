"""What holds over the whole program, whichever operation it is."""

import itertools
import unittest

from reckoning import Rules, worth
from tenreckon.comparing import compared, greater, lesser
from tenreckon.contexts import SIGNALS
from tenreckon.dividing import over, rest_of, whole_over
from tenreckon.errors import Trapped
from tenreckon.numbers import end, nothing, told
from tenreckon.others import next_down, next_up, same_power, scaled, to_whole, trimmed
from tenreckon.powers import root, to_power
from tenreckon.settling import rounded
from tenreckon.sums import fused, minus, plus, times
from tenreckon.texts import read, written
from tenreckon.ways import WAYS

TEXTS = """
0 -0 0e-90 -0e90 1 -1 1.0 2 -3 7 10 0.5 -0.25 9.99 -12345 123456789012345678901234567890 1e10 -1e-10 99999 1e70 -7e60
5e-61 -1e-70 3e-83 1000e-3 333333e-3 9.9949e4 -99951 end -end none
"""
NUMBERS = [read(text) for text in TEXTS.split()]
OF_ONE = (root, trimmed, next_up, next_down, rounded)
OF_TWO = (plus, minus, times, over, whole_over, rest_of, same_power, lesser, greater)
RULES = [Rules(3, way, -6, 4) for way in WAYS]
RULES += [Rules(1, "up", 0, 0), Rules(24, "half even"), Rules(9, "five up", -60, 0)]


def works():
    """Each operation whose answer is settled, with the numbers and counts that it takes."""
    for work, one in itertools.product(OF_ONE, NUMBERS):
        yield work, (one,)
    for work, one, other in itertools.product(OF_TWO, NUMBERS, NUMBERS):
        yield work, (one, other)
    for one, count in itertools.product(NUMBERS, (-20, -3, -1, 0, 1, 2, 20)):
        yield to_power, (one, count)
        yield scaled, (one, count)
    for one, other, third in itertools.product(NUMBERS[::3], repeat=3):
        yield fused, (one, other, third)


def fits(rules, number):
    if number.kind != "plain":
        return True
    if not rules.lowest <= number.power <= rules.most or number.figures >= 10 ** rules.room:
        return False
    return number.figures == 0 or number.power + len(str(number.figures)) - 1 <= rules.most


class WholeTest(unittest.TestCase):
    def test_rounding_once_more_changes_nothing(self):
        for rules in RULES:
            for work, handed in works():
                number = work(rules.context(), *handed)
                self.assertTrue(fits(rules, number), (rules, work, told(number)))
                again = rules.context()
                self.assertEqual(told(rounded(again, number)), told(number), (rules, work))
                self.assertIn(again.flags(), ([], ["faint"]))

    def test_of_a_greater_worth_none_less_is_told(self):
        ordered = sorted((number for number in NUMBERS if number.kind == "plain"), key=worth)
        ordered = [end(1)] + ordered + [end(0)]
        for rules in RULES:
            works_up = [rounded, trimmed, next_up, next_down, to_whole]
            works_up += [lambda context, one, by=by: plus(context, one, by) for by in (read("0.37"), read("-7e3"))]
            works_up += [lambda context, one, by=by: times(context, one, by) for by in (read("3"), read("0.007"))]
            works_up += [lambda context, one, by=by: over(context, one, by) for by in (read("3"), read("0.007"))]
            works_up += [lambda context, one, by=by: lesser(context, one, by) for by in (read("5"), read("-9e3"))]
            works_up += [lambda context, one: scaled(context, one, -2), lambda context, one: to_power(context, one, 3)]
            for work in works_up:
                answers = [work(rules.context(), one) for one in ordered]
                for less, more in zip(answers, answers[1:]):
                    self.assertIn(compared(less, more), (-1, 0), (rules, work, told(less), told(more)))

    def test_the_ways_lie_as_they_should(self):
        for work, one, other in itertools.product((plus, minus, times, over), NUMBERS, NUMBERS):
            told_by = {way: work(Rules(3, way, -6, 4).context(), one, other) for way in WAYS}
            if told_by["floor"].kind != "none":
                for way in WAYS:
                    self.assertIn(compared(told_by["floor"], told_by[way]), (-1, 0))
                    self.assertIn(compared(told_by[way], told_by["ceiling"]), (-1, 0))

    def test_what_is_off_is_not_exact(self):
        for rules in RULES:
            for one, other in itertools.product(NUMBERS[:-3], NUMBERS[:-3]):
                context = rules.context()
                total = plus(context, one, other)
                exact = total.kind == "plain" and worth(total) == worth(one) + worth(other)
                self.assertEqual("off" not in context.flags(), exact)

    def test_whole_times_the_second_and_the_rest_give_the_first(self):
        seen = 0
        for one, other in itertools.product(NUMBERS[:-3], NUMBERS[:-3]):
            context = Rules(24).context()
            whole, left = whole_over(context, one, other), rest_of(context, one, other)
            if context.flags() == []:
                seen += 1
                self.assertEqual(worth(whole) * worth(other) + worth(left), worth(one))
                back = fused(context, whole, other, left)
                self.assertEqual(told(back)[:2], told(rounded(Rules(24).context(), one))[:2])
                self.assertEqual(compared(back, rounded(Rules(24).context(), one)), 0)
        self.assertGreater(seen, 100)

    def test_the_square_of_an_exact_root_is_the_number(self):
        for figures in range(300):
            context = Rules(12).context()
            one = read(f"{figures}e-2")
            found = root(context, one)
            if context.flags() == []:
                self.assertEqual(compared(times(context, found, found), one), 0)
        context = Rules(12).context()
        for figures in range(300):
            square = to_power(context, read(f"{figures}.5"), 2)
            self.assertEqual(written(root(context, square)), f"{figures}.5")
        self.assertEqual(context.flags(), [])

    def test_a_nothing_number_tells_one_and_raises_nothing(self):
        for work, handed in works():
            if any(getattr(thing, "kind", "") == "none" for thing in handed):
                context = Rules().context()
                context.trap(list(SIGNALS))
                self.assertEqual(told(work(context, *handed)), told(nothing()))
                self.assertEqual(context.flags(), [])

    def test_trapped_just_where_a_signal_is_raised(self):
        for work, handed in works():
            context = Rules(3, "half up", -6, 4).context()
            answer = told(work(context, *handed))
            wary = Rules(3, "half up", -6, 4).context()
            wary.trap(list(SIGNALS))
            try:
                self.assertEqual(told(work(wary, *handed)), answer)
                self.assertEqual(context.flags(), [])
            except Trapped as refusal:
                self.assertEqual(refusal.signal, context.flags()[0])
            self.assertEqual(wary.flags(), context.flags())

    def test_long_rows_on_one_context(self):
        for rules in RULES:
            context = rules.context()
            gathered = set()
            for number, (work, handed) in enumerate(works()):
                alone = rules.context()
                wanted = told(work(alone, *handed))
                self.assertEqual(told(work(context, *handed)), wanted)
                gathered |= set(alone.flags())
                self.assertEqual(context.flags(), [name for name in SIGNALS if name in gathered])
                if number % 17 == 0:
                    context.clear()
                    gathered = set()

    def test_what_is_handed_in_is_not_changed(self):
        before = [told(number) for number in NUMBERS]
        for work, handed in works():
            work(Rules(2, "up", -3, 3).context(), *handed)
        self.assertEqual([told(number) for number in NUMBERS], before)


if __name__ == "__main__":
    unittest.main()
