import itertools
import unittest

from tenreckon.contexts import SIGNALS
from tenreckon.desk import played
from tenreckon.ways import WAYS

OF_ONE = ("root", "to whole", "trimmed", "next up", "next down")
OF_TWO = ("plus", "minus", "times", "over", "whole over", "rest", "same power", "lesser", "greater", "compare")
COUNTED = ("power", "scaled")

# A line of each sort that is right, and its answer at a desk made anew.
RIGHT = {
    "plus 1.5 2.25": "3.75", "minus 1 2": "-1", "times -1.5 2": "-3.0", "fused 2 3 0.5": "6.5", "over 1 8": "0.125",
    "whole over 7 2": "3", "rest 7.5 2": "1.5", "root 6.25": "2.5", "same power 1 0.00": "1.00", "to whole 2.5": "2",
    "trimmed 1200": "1.2e+3", "next up 1": "1.00000001", "next down 1": "0.999999999", "lesser 1 2": "1",
    "greater 1 2": "2", "power 2 10": "1024", "scaled 1.2 3": "1.2e+3", "compare 1 2": "less", "room 5": "done",
    "way up": "done", "way half up": "done", "bounds -5 5": "done", "trap": "done", "trap off": "done",
    "trap off cut": "done", "flags": "none up", "clear": "done",
}


class DeskCase(unittest.TestCase):
    def play(self, *lines):
        """The answers, looked at for being texts, told twice alike and leaving the list as it was."""
        handed = list(lines)
        answers = played(handed)
        self.assertIs(type(answers), list)
        self.assertEqual({type(answer) for answer in answers} - {str}, set())
        self.assertEqual(handed, list(lines))
        self.assertEqual(len(answers), len(lines))
        answers_kept = list(answers)
        answers.append("changed by the asker")
        self.assertEqual(played(handed), answers_kept)
        return answers_kept

    def check(self, text):
        """Rows of a line and its answer, with an = between."""
        rows = [row.split(" = ") for row in text.strip().split("\n")]
        lines = [row[0].strip() for row in rows]
        self.assertEqual(list(zip(lines, self.play(*lines))), list(zip(lines, [row[1].strip() for row in rows])))


class LinesTest(DeskCase):
    def test_no_lines(self):
        self.assertEqual(played([]), [])
        self.assertIsNot(played([]), played([]))

    def test_each_right_line(self):
        for line, answer in RIGHT.items():
            self.assertEqual(self.play(line), [answer], line)

    def test_a_blank_more(self):
        for line in RIGHT:
            for wrong in (" " + line, line + " ", "  " + line, line + "  ", " " + line + " "):
                self.assertEqual(self.play(wrong), ["no line"], wrong)
            for place, sign in enumerate(line):
                if sign == " ":
                    self.assertEqual(self.play(line[:place] + " " + line[place:]), ["no line"])
        for wrong in ("", " ", "  ", "     "):
            self.assertEqual(self.play(wrong), ["no line"])

    def test_a_blank_more_ahead_of_all_else(self):
        for wrong in ("plus  x y", "room 99 ", " trap nothing", "way  foo", "power x  99999", "room  x"):
            self.assertEqual(self.play(wrong), ["no line"])

    def test_other_blanks(self):
        for line in RIGHT:
            for blank in "\t\n":
                self.assertNotIn(self.play(line + blank), [[answer] for answer in RIGHT.values()], line)
                self.assertNotEqual(self.play(blank + line), [RIGHT[line]], line)
        self.assertEqual(self.play("flags\n", "clear\t", "plus\t1 2", "plus 1\t 2", "room 5\n", "trap off\n"),
                         ["no line", "no line", "no line", "no number", "no count", "bad context"])

    def test_great_letters(self):
        for line in RIGHT:
            words = line.split(" ")
            self.assertEqual(self.play(line.title()), ["no line"], line)
            self.assertEqual(self.play(" ".join([words[0].upper()] + words[1:])), ["no line"], line)
        self.assertEqual(self.play("whole Over 1 2", "same POWER 1 2", "next Up 1"), ["no line"] * 3)
        self.assertEqual(self.play("way UP", "way Half even", "trap VOID", "trap void Cut"), ["bad context"] * 4)

    def test_other_names(self):
        for line in ("x", "x 1", "x 1 2", "add 1 2", "whole 1 2", "to 1", "next 1", "same 1 2", "power", "up 1", "over",
                     "half even", "half 1", "whole_over 1 2", "wholeover 1 2", "rounded 1", "void", "1", "1 2", "none",
                     "raised void", "traps", "least 1", "most 1", "count 1", "pluss 1 2", "plu 1 2", "next over 1",
                     "whole up 1 2", "same whole 1 2", "to power 1 2", "whole over", "to whole", "next up", "next",
                     "compared 1 2", "rest of 1 2", "rest_of 1 2", "scale 1 2", "#", "done", "-", "flag"):
            self.assertEqual(self.play(line), ["no line"], line)

    def test_words_too_many_and_too_few(self):
        wanted = {name: 1 for name in OF_ONE}
        wanted.update({name: 2 for name in OF_TWO + COUNTED + ("bounds",)})
        wanted.update({"fused": 3, "room": 1, "flags": 0, "clear": 0})
        for name, count in wanted.items():
            for words in range(6):
                for word in ("1", "x"):
                    line = " ".join([name] + [word] * words)
                    if words == count:
                        self.assertNotEqual(self.play(line), ["no line"], line)
                    else:
                        self.assertEqual(self.play(line), ["no line"], line)
        self.assertEqual(self.play("way", "way half even x", "way a b c", "way half even half even"), ["no line"] * 4)


class ContextLinesTest(DeskCase):
    def test_room(self):
        for count in range(-30, 60):
            self.assertEqual(self.play(f"room {count}"), ["done" if 1 <= count <= 24 else "bad context"])
        self.check("""
            room 3 = done
            over 1 3 = 0.333
            room 24 = done
            over 1 3 = 0.333333333333333333333333
            room 1 = done
            over 1 3 = 0.3
            room 0 = bad context
            room 25 = bad context
            room -1 = bad context
            room 9999 = bad context
            room -9999 = bad context
            over 1 3 = 0.3
            room 0004 = done
            over 1 3 = 0.3333
            room 10000 = no count
            room x = no count
            room +3 = no count
            room 3.0 = no count
            room 3e0 = no count
            over 1 3 = 0.3333
        """)

    def test_way(self):
        answers = {"down": "0.666", "up": "0.667", "floor": "0.666", "ceiling": "0.667", "half up": "0.667",
                   "half down": "0.667", "half even": "0.667", "five up": "0.666"}
        for way in WAYS:
            self.assertEqual(self.play("room 3", f"way {way}", "over 2 3"), ["done", "done", answers[way]])
        for wrong in ("x", "half", "five", "even", "half x", "x y", "up down", "even half", "Up", "UP", "half Even",
                      "1", "none", "half_even", "halfeven", "void"):
            self.assertEqual(self.play("room 3", "way up", f"way {wrong}", "over 1 3"),
                             ["done", "done", "bad context", "0.334"], wrong)

    def test_bounds(self):
        for least in (-62, -61, -60, -59, -1, 0, 1, 2, 9999, -9999):
            for most in (-9999, -2, -1, 0, 1, 59, 60, 61, 62, 9999):
                right = -60 <= least <= 0 <= most <= 60
                self.assertEqual(self.play(f"bounds {least} {most}"), ["done" if right else "bad context"])
        self.check("""
            bounds -3 4 = done
            times 1e4 10 = end
            times 1e4 9 = 9e+4
            next up 0 = 1e-11
            flags = burst off cut
            bounds -4 5 = done
            times 1e4 10 = 1.0e+5
            next up 0 = 1e-12
            bounds -4 61 = bad context
            bounds 1 5 = bad context
            bounds 5 -4 = bad context
            times 1e4 10 = 1.0e+5
            times 1e5 10 = end
            next up 0 = 1e-12
            bounds x 5 = no count
            bounds 1 x = no count
            bounds x x = no count
            bounds -4 +5 = no count
            bounds 99999 5 = no count
            bounds 5 99999 = no count
            next up 0 = 1e-12
        """)

    def test_all_else_as_it_was(self):
        self.check("""
            room 3 = done
            way up = done
            bounds -3 4 = done
            over 1 3 = 0.334
            next up 0 = 0.00001
            next up 9.99e4 = end
            room 2 = done
            over 1 3 = 0.34
            next up 0 = 0.0001
            next down end = 9.9e+4
            way down = done
            over 1 3 = 0.33
            next up 0 = 0.0001
            next down end = 9.9e+4
            bounds -2 5 = done
            over 1 3 = 0.33
            next up 0 = 0.001
            next down end = 9.9e+5
        """)

    def test_flags_and_traps_are_kept(self):
        for line in ("room 3", "room 9", "way up", "way half even", "bounds -60 60", "bounds 0 0", "room 0", "way x",
                     "bounds 1 1", "room x", "room", "x"):
            answers = self.play("over 1 3", "trap void split", line, "flags", "minus end end", "flags", "over 1 0",
                                "flags", "over 1 3")
            self.assertEqual(answers[3:8], ["off cut", "trapped void", "void off cut", "trapped split",
                                            "void split off cut"], line)
            self.assertNotIn("trapped", answers[8])

    def test_flags_that_are_trapped_are_kept_too(self):
        self.check("""
            over 1 3 = 0.333333333
            trap off cut = done
            room 3 = done
            way up = done
            bounds -9 9 = done
            flags = off cut
            over 1 3 = trapped off
            over 1 2 = 0.5
            clear = done
            room 4 = done
            flags = none up
            over 1 3 = trapped off
            flags = off cut
        """)


class SignalLinesTest(DeskCase):
    def test_trap(self):
        self.check("""
            trap = done
            over 1 3 = 0.333333333
            trap off = done
            over 1 3 = trapped off
            trap cut = done
            over 1 3 = trapped cut
            trap cut off = done
            over 1 3 = trapped off
            trap cut cut = done
            over 1 3 = trapped cut
            trap x = bad context
            trap off x = bad context
            trap x off = bad context
            trap void Off = bad context
            trap 1 = bad context
            trap half even = bad context
            over 1 3 = trapped cut
            trap = done
            over 1 3 = 0.333333333
        """)

    def test_trap_with_many_names(self):
        every = " ".join(SIGNALS)
        self.assertEqual(self.play(f"trap {every}", "over 1 0", "minus end end"),
                         ["done", "trapped split", "trapped void"])
        self.assertEqual(self.play(f"trap {every} {every}", "over 1 0"), ["done", "trapped split"])
        self.assertEqual(self.play(f"trap {every} none", "over 1 0"), ["bad context", "end"])

    def test_each_signal(self):
        self.check("""
            flags = none up
            minus end end = none
            flags = void
            over -1 0 = -end
            flags = void split
            scaled 9e60 1 = end
            flags = void split burst off cut
            clear = done
            flags = none up
            times 1e-60 0.1 = 1e-61
            flags = faint
            times 3e-60 1e-9 = 0e-68
            flags = sunk faint off cut
            clear = done
            over 1 3 = 0.333333333
            flags = off cut
            clear = done
            over 10000000000 1 = 1.00000000e+10
            flags = cut
            clear = done
            clear = done
            flags = none up
        """)

    def test_flags_behind_a_trap(self):
        self.check("""
            trap sunk = done
            times 3e-60 1e-9 = trapped sunk
            flags = sunk faint off cut
            trap cut = done
            times 3e-60 1e-9 = trapped cut
            trap faint off = done
            times 3e-60 1e-9 = trapped faint
            clear = done
            scaled 9e60 1 = trapped off
            flags = burst off cut
            root -1 = none
            trap void = done
            root -1 = trapped void
            power 0 -1 = end
            flags = void split burst off cut
            trap split = done
            power 0 -1 = trapped split
            power 0 0 = none
        """)


class OperationLinesTest(DeskCase):
    def test_with_all_sorts_of_numbers(self):
        self.check("""
            plus 1 -1 = 0
            plus end -end = none
            plus none 1 = none
            plus NONE END = none
            plus +1.50 .5 = 2.00
            minus 1e3 1E3 = 0e+3
            minus -end end = -end
            times -0 7 = -0
            times end 0 = none
            fused 1001 1001 -1002000 = 1
            fused end 0 none = none
            over 1 3 = 0.333333333
            over 6.0 2 = 3.0
            over -1 0 = -end
            over 5 -end = -0e-68
            whole over -7 2 = -3
            whole over 1e9 1 = none
            whole over 7 end = 0
            rest -7 2 = -1
            rest 7 0 = none
            rest 7 end = 7
            root 2 = 1.41421356
            root -0.00 = -0.0
            root -1 = none
            root end = end
            same power 2.5 1 = 2
            same power 1 1e-69 = none
            same power end -end = end
            to whole 12345678901234567890.5 = 12345678901234567890
            to whole -end = -end
            trimmed -0.00 = -0
            trimmed 1.500 = 1.5
            next up -0 = 1e-68
            next up -1e-68 = -0e-68
            next up -end = -9.99999999e+60
            next down end = 9.99999999e+60
            next down 0 = -1e-68
            lesser -0 0 = -0
            lesser 2 1.0 = 1.0
            greater end none = none
            greater 1.0 1 = 1.0
        """)

    def test_compare(self):
        self.check("""
            compare 1 2 = less
            compare 2 1 = more
            compare 1 1.0 = alike
            compare 0 -0 = alike
            compare end end = alike
            compare -end end = less
            compare end 1e200 = more
            compare -1 1 = less
            compare none 1 = none
            compare 1 none = none
            compare none none = none
            flags = none up
        """)

    def test_numbers_that_cant_be_read(self):
        for name in OF_ONE:
            self.assertEqual(self.play(f"{name} x", f"{name} 1e", f"{name} 1e201"), ["no number"] * 3)
        for name in OF_TWO:
            for one, other in (("x", "1"), ("1", "x"), ("x", "x"), ("none", "x"), ("x", "none"), ("--1", "end")):
                self.assertEqual(self.play(f"{name} {one} {other}"), ["no number"])
        for place in range(3):
            words = ["1", "2", "3"]
            words[place] = "x"
            self.assertEqual(self.play("fused " + " ".join(words)), ["no number"])
        for text in ("1,5", "1_0", "0x1", "inf", "nan", "+", "-", ".", "e5", "1" * 61, "1e-201", "ends"):
            self.assertEqual(self.play(f"plus 1 {text}", f"plus {text} 1"), ["no number"] * 2)

    def test_counts(self):
        self.check("""
            power 2 0 = 1
            power 2 -0 = 1
            power 2 3 = 8
            power 2 -3 = 0.125
            power 2 03 = 8
            power 2 003 = 8
            power 2 0003 = 8
            power 2 -0003 = 0.125
            power 2 00003 = no count
            power 2 -00003 = no count
            power 2 +3 = no count
            power 2 --3 = no count
            power 2 - = no count
            power 2 3- = no count
            power 2 3.0 = no count
            power 2 3e0 = no count
            power 2 x = no count
            power 2 end = no count
            power 2 none = no count
            power 2 True = no count
            power 2 1_0 = no count
            power 2 20 = 1048576
            power 2 -20 = 9.53674316e-7
            power 2 21 = no count
            power 2 -21 = no count
            power 2 9999 = no count
            power 2 -9999 = no count
            power none 20 = none
            power none 21 = no count
            power end 21 = no count
            power 0 21 = no count
            scaled 2 100 = end
            scaled 2 -100 = 0e-68
            scaled 2 101 = no count
            scaled 2 -101 = no count
            scaled 2 10000 = no count
            scaled 2 +1 = no count
            scaled 2 x = no count
            scaled 2 -1 = 0.2
            scaled 2 0001 = 2e+1
            scaled end 100 = end
            scaled end 101 = no count
        """)

    def test_the_first_that_is_wrong_is_told(self):
        for name in COUNTED:
            for number, count, wanted in (("x", "1", "no number"), ("x", "x", "no number"), ("1", "x", "no count"),
                                          ("x", "999", "no number"), ("x", "99999", "no number"),
                                          ("1", "999", "no count")):
                self.assertEqual(self.play(f"{name} {number} {count}"), [wanted])
        self.assertEqual(self.play("bounds x 99", "bounds 99 x", "bounds 99 99"),
                         ["no count", "no count", "bad context"])
        self.assertEqual(self.play("trap void", "minus end x", "over x 0", "over 0 0", "root -x"),
                         ["done", "no number", "no number", "trapped void", "no number"])


class OverTheWholeTest(DeskCase):
    def test_a_refused_line_changes_nothing(self):
        asked = ["flags", "over 2 3", "next up 0", "next down end", "over 1 0", "flags"]
        start = ["room 4", "way up", "bounds -7 8", "trap split", "minus end end"]
        wanted = self.play(*start, *asked)[-len(asked):]
        self.assertEqual(wanted, ["void", "0.6667", "1e-10", "9.999e+8", "trapped split", "void split off cut"])
        for line in ("room 0", "room 25", "room x", "room 99999", "room", "room 1 2", "way x", "way half", "way",
                     "way a b c", "bounds 1 1", "bounds -61 1", "bounds x 1", "bounds 1", "bounds 0 x", "trap x",
                     "trap cut x", "trap x cut", "flags x", "clear x", "clear ", " clear", "plus x 1", "plus 1",
                     "over 1 x", "power 1 99", "power x 1", "scaled 1 101", "scaled 1 x", "CLEAR", "x", "",
                     "power 0 x"):
            self.assertEqual(self.play(*start, line, *asked)[-len(asked):], wanted, line)

    def test_each_play_has_a_context_of_its_own(self):
        self.play("room 3", "way up", "bounds 0 0", "trap void", "over 1 3")
        self.assertEqual(self.play("over 1 3", "flags", "next up 0", "next down end", "minus end end"),
                         ["0.333333333", "off cut", "1e-68", "9.99999999e+60", "none"])

    def test_lines_changed_later(self):
        lines = ["plus 1 2", "flags"]
        answers = played(lines)
        lines[0] = "plus 3 4"
        lines.append("x")
        self.assertEqual(answers, ["3", "none up"])

    def test_long_rows(self):
        lines = list(RIGHT) * 20
        self.assertEqual(len(self.play(*lines)), len(lines))
        answers = self.play("room 9", *["over 1 3", "times 3 4", "minus end end", "flags"] * 100)
        self.assertEqual(answers[4], "void off cut")
        self.assertEqual(set(answers[1:]), {"0.333333333", "12", "none", "void off cut"})

    def test_each_pair_of_lines(self):
        for one, other in itertools.product(("room 5", "way up", "bounds -5 5", "trap off", "clear"), repeat=2):
            self.assertEqual(self.play(one, other, "flags"), ["done", "done", "none up"])


if __name__ == "__main__":
    unittest.main()
