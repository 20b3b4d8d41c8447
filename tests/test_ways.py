import unittest

from strange import Touchy, no_texts
from tenreckon import ways
from tenreckon.errors import BadContext
from tenreckon.ways import WAYS, Way, way_of

NAMES = ("down", "up", "floor", "ceiling", "half up", "half down", "half even", "five up")

# For each way, the last figures with which a part 1, 2, 3 goes up: above nought, then below.
NONE = ""
EACH = "0123456789"
GOES_UP = {
    "down": ((NONE, NONE, NONE), (NONE, NONE, NONE)),
    "up": ((EACH, EACH, EACH), (EACH, EACH, EACH)),
    "floor": ((NONE, NONE, NONE), (EACH, EACH, EACH)),
    "ceiling": ((EACH, EACH, EACH), (NONE, NONE, NONE)),
    "half up": ((NONE, EACH, EACH), (NONE, EACH, EACH)),
    "half down": ((NONE, NONE, EACH), (NONE, NONE, EACH)),
    "half even": ((NONE, "13579", EACH), (NONE, "13579", EACH)),
    "five up": (("05", "05", "05"), ("05", "05", "05")),
}

TO_END = {
    "down": (False, False), "up": (True, True), "floor": (False, True), "ceiling": (True, False),
    "half up": (True, True), "half down": (True, True), "half even": (True, True), "five up": (False, False),
}


class WaysTest(unittest.TestCase):
    def refused(self, thing):
        with self.assertRaises(BadContext) as caught:
            way_of(thing)
        self.assertIs(type(caught.exception), BadContext)

    def test_the_names_in_order(self):
        self.assertIs(type(WAYS), tuple)
        self.assertEqual(WAYS, NAMES)

    def test_each_way_has_its_name(self):
        for name in NAMES:
            self.assertEqual(way_of(name).name(), name)

    def test_each_way_has_a_class_of_its_own_under_the_base(self):
        found = [type(way_of(name)) for name in NAMES]
        self.assertEqual(len(set(found)), 8)
        for one in found:
            self.assertTrue(issubclass(one, Way))
            self.assertIsNot(one, Way)
        under = [thing for thing in vars(ways).values() if isinstance(thing, type) and Way in thing.__bases__]
        self.assertEqual(set(under), set(found))

    def test_made_anew_each_time(self):
        for name in NAMES:
            self.assertIsNot(way_of(name), way_of(name))

    def test_goes_up(self):
        for name, signs in GOES_UP.items():
            way = way_of(name)
            for sign in (0, 1):
                for last in range(10):
                    for part in (1, 2, 3):
                        wanted = str(last) in signs[sign][part - 1]
                        self.assertIs(way.goes_up(sign, last, part), wanted, (name, sign, last, part))

    def test_to_end(self):
        for name, signs in TO_END.items():
            for sign in (0, 1):
                self.assertIs(way_of(name).to_end(sign), signs[sign], (name, sign))

    def test_what_is_no_name_is_refused(self):
        for thing in no_texts() + [Touchy(), way_of("up"), Way, WAYS, list(WAYS), ["up"], ("up",), {"up": 1}]:
            self.refused(thing)

    def test_other_texts_are_refused(self):
        for name in NAMES:
            for text in (name.upper(), name.title(), name[:-1], name[1:], name * 2):
                self.refused(text)
            for blank in (" ", "\n", "\t"):
                self.refused(blank + name)
                self.refused(name + blank)
            if " " in name:
                for blank in ("", "  ", "_", "-", "\t"):
                    self.refused(name.replace(" ", blank))
        for text in ("", " ", "half", "five", "even", "half odd", "half  even", "none", "end", "off", "up down"):
            self.refused(text)


if __name__ == "__main__":
    unittest.main()
