import itertools
import unittest

from strange import Touchy, no_texts, no_wholes, nor_whole_nor_text
from tenreckon.contexts import SIGNALS, Context
from tenreckon.errors import BadContext, Trapped
from tenreckon.numbers import plain
from tenreckon.ways import WAYS, Way, way_of

NAMES = ("void", "split", "burst", "sunk", "faint", "off", "cut")
FAR = (10 ** 5000, -10 ** 5000, 10 ** 9, -10 ** 9)
BOUNDS = {"room": (1, 24), "least": (-60, 0), "most": (0, 60)}


def some_lists():
    """Lists of names, in unlike orders and with names that stand twice."""
    lists = [[], list(NAMES), list(reversed(NAMES)), ["cut", "cut"], ["off", "void", "off"], ["cut", "void", "sunk"]]
    return lists + [[name] for name in NAMES] + [list(pair) for pair in itertools.permutations(NAMES, 2)]


def in_order(names):
    return [name for name in NAMES if name in names]


def no_lists_of_names():
    things = no_wholes() + [0, 1, 10 ** 5000, "void", "void cut", tuple(NAMES), ("void",), {"void": True}, {"void"}]
    things = [thing for thing in things if type(thing) is not list or thing]
    wrong = no_texts() + ["", "Void", "VOID", " void", "void ", "voids", "none", "up", ["void"], ("void",), Touchy()]
    for thing in wrong:
        things += [[thing], [thing, "void"], ["void", thing], ["off", thing, "cut"], list(NAMES) + [thing]]
    return things


class MadeTest(unittest.TestCase):
    def refused(self, *handed, **named):
        with self.assertRaises(BadContext) as caught:
            Context(*handed, **named)
        self.assertIs(type(caught.exception), BadContext)

    def check(self, context, room, way, least, most):
        self.assertEqual((context.room, context.least, context.most), (room, least, most))
        self.assertIsInstance(context.way(), Way)
        self.assertEqual(context.way().name(), way)
        self.assertIs(type(context.way()), type(way_of(way)))
        self.assertEqual(context.lowest(), least - room + 1)
        self.assertEqual(context.flags(), [])
        self.assertEqual(context.traps(), [])

    def test_left_out(self):
        self.check(Context(), 9, "half even", -60, 60)
        self.check(Context(5), 5, "half even", -60, 60)
        self.check(Context(5, "up"), 5, "up", -60, 60)
        self.check(Context(5, "up", -7), 5, "up", -7, 60)
        self.check(Context(5, "up", -7, 8), 5, "up", -7, 8)

    def test_by_name(self):
        self.check(Context(room=5), 5, "half even", -60, 60)
        self.check(Context(way="floor"), 9, "floor", -60, 60)
        self.check(Context(least=-7), 9, "half even", -7, 60)
        self.check(Context(most=8), 9, "half even", -60, 8)
        self.check(Context(most=8, least=-7, way="up", room=5), 5, "up", -7, 8)

    def test_least_none_stands_for_the_least_of_all(self):
        self.check(Context(least=None), 9, "half even", -60, 60)
        self.check(Context(24, "down", None, 0), 24, "down", -60, 0)

    def test_each_way(self):
        for way in WAYS:
            self.check(Context(3, way, -2, 2), 3, way, -2, 2)

    def test_within_and_beyond_the_bounds(self):
        for name, bounds in BOUNDS.items():
            for value in range(bounds[0], bounds[1] + 1):
                context = Context(**{name: value})
                wanted = {"room": 9, "least": -60, "most": 60, name: value}
                self.check(context, wanted["room"], "half even", wanted["least"], wanted["most"])
            for value in (bounds[0] - 1, bounds[0] - 2, bounds[1] + 1, bounds[1] + 2) + FAR:
                self.refused(**{name: value})
        for handed in ((0,), (25,), (-1,), (9, "up", -61), (9, "up", 1), (9, "up", 0, -1), (9, "up", 0, 61)):
            self.refused(*handed)

    def test_all_bounds_at_once(self):
        for room, least, most in itertools.product((1, 24), (-60, 0), (0, 60)):
            self.check(Context(room, "up", least, most), room, "up", least, most)

    def test_the_lowest_power(self):
        self.assertEqual(Context(room=1, least=0).lowest(), 0)
        self.assertEqual(Context(room=1, least=-60).lowest(), -60)
        self.assertEqual(Context(room=24, least=0).lowest(), -23)
        self.assertEqual(Context(room=24, least=-60).lowest(), -83)
        self.assertEqual(Context().lowest(), -68)

    def test_wrong_kinds(self):
        for thing in no_wholes() + [plain(0, 5, 0), Context()]:
            self.refused(thing)
            self.refused(room=thing)
            self.refused(9, "up", 0, thing)
            self.refused(most=thing)
            if thing is not None:
                self.refused(9, "up", thing)
                self.refused(least=thing)

    def test_wrong_ways(self):
        for thing in no_texts() + ["", "UP", "Half even", "half  even", " up", "up ", "half", way_of("up"), WAYS]:
            self.refused(9, thing)
            self.refused(way=thing)

    def test_several_wrong(self):
        for thing in (True, Touchy(), "9", 10 ** 5000):
            self.refused(thing, thing, thing, thing)

    def test_the_way_is_the_askers_own(self):
        context = Context(way="floor")
        self.assertIsNot(context.way(), context.way())
        context.way().goes_up = None
        self.assertIs(context.way().goes_up(1, 0, 1), True)


class SignalsTest(unittest.TestCase):
    def test_the_names_in_order(self):
        self.assertIs(type(SIGNALS), tuple)
        self.assertEqual(SIGNALS, NAMES)

    def test_flags_of_what_is_raised(self):
        for names in some_lists():
            context = Context()
            self.assertIsNone(context.raised(names))
            self.assertIs(type(context.flags()), list)
            self.assertEqual(context.flags(), in_order(names))
            self.assertEqual(context.traps(), [])

    def test_flags_gather(self):
        context = Context()
        context.raised(["cut"])
        context.raised(["void"])
        context.raised([])
        context.raised(["off", "cut"])
        self.assertEqual(context.flags(), ["void", "off", "cut"])
        for names in some_lists():
            before = context.flags()
            context.raised(names)
            self.assertEqual(context.flags(), in_order(before + names))

    def test_clear(self):
        context = Context()
        self.assertIsNone(context.clear())
        context.trap(["void"])
        context.raised(["off", "cut"])
        self.assertIsNone(context.clear())
        self.assertEqual(context.flags(), [])
        self.assertEqual(context.traps(), ["void"])
        context.raised(["faint"])
        self.assertEqual(context.flags(), ["faint"])

    def test_traps(self):
        context = Context()
        for names in some_lists():
            self.assertIsNone(context.trap(names))
            self.assertIs(type(context.traps()), list)
            self.assertEqual(context.traps(), in_order(names))
            self.assertEqual(context.flags(), [])

    def test_what_is_trapped(self):
        for traps, names in itertools.product(some_lists(), some_lists()):
            context = Context()
            context.trap(traps)
            self.assertIsNone(context.raised([]))
            hit = [name for name in NAMES if name in traps and name in names]
            if hit:
                with self.assertRaises(Trapped) as caught:
                    context.raised(names)
                self.assertIs(type(caught.exception), Trapped)
                self.assertEqual(caught.exception.signal, hit[0])
            else:
                self.assertIsNone(context.raised(names))
            self.assertEqual(context.flags(), in_order(names))
            self.assertEqual(context.traps(), in_order(traps))

    def test_a_flag_from_ahead_is_not_trapped_again(self):
        context = Context()
        context.raised(["void", "cut"])
        context.trap(["void"])
        self.assertIsNone(context.raised(["cut"]))
        self.assertIsNone(context.raised([]))
        self.assertEqual(context.flags(), ["void", "cut"])

    def test_a_trap_anew_takes_the_place_of_the_one_before(self):
        context = Context()
        context.trap(["void", "off"])
        context.trap(["cut"])
        self.assertEqual(context.traps(), ["cut"])
        self.assertIsNone(context.raised(["void", "off"]))
        with self.assertRaises(Trapped) as caught:
            context.raised(["off", "cut"])
        self.assertEqual(caught.exception.signal, "cut")
        context.trap([])
        self.assertEqual(context.traps(), [])
        self.assertIsNone(context.raised(list(NAMES)))

    def test_lists_told_are_the_askers_own(self):
        context = Context()
        context.trap(["off"])
        context.raised(["cut"])
        for told in (context.flags(), context.traps()):
            told.append("void")
            told.remove(told[0])
        self.assertEqual(context.flags(), ["cut"])
        self.assertEqual(context.traps(), ["off"])
        self.assertIsNone(context.raised(["void"]))

    def test_lists_handed_in_stay_and_may_be_changed_later(self):
        context = Context()
        for work in (context.trap, context.raised):
            names = ["cut", "off", "cut"]
            try:
                work(names)
            except Trapped:
                pass
            self.assertEqual(names, ["cut", "off", "cut"])
            names.append("void")
            names[0] = "split"
            self.assertEqual(context.traps(), ["off", "cut"])
        self.assertEqual(context.flags(), ["off", "cut"])

    def test_what_is_no_list_of_names_is_refused(self):
        context = Context()
        context.raised(["faint", "cut"])
        context.trap(["split", "off"])
        for thing in no_lists_of_names():
            for work in (context.trap, context.raised):
                with self.assertRaises(BadContext) as caught:
                    work(thing)
                self.assertIs(type(caught.exception), BadContext)
        self.assertEqual(context.flags(), ["faint", "cut"])
        self.assertEqual(context.traps(), ["split", "off"])

    def test_a_wrong_list_is_refused_ahead_of_a_trap(self):
        context = Context()
        context.trap(["off"])
        for thing in nor_whole_nor_text():
            with self.assertRaises(BadContext):
                context.raised(["off", thing])
        self.assertEqual(context.flags(), [])

    def test_two_contexts_dont_know_of_each_other(self):
        one = Context()
        other = Context()
        one.raised(["off"])
        one.trap(["cut"])
        self.assertEqual((other.flags(), other.traps()), ([], []))
        other.raised(["cut"])
        other.trap(["void"])
        self.assertEqual((one.flags(), one.traps()), (["off"], ["cut"]))
        other.clear()
        self.assertEqual(one.flags(), ["off"])
        self.assertEqual((Context().flags(), Context().traps()), ([], []))


if __name__ == "__main__":
    unittest.main()
