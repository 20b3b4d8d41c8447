"""The names, arguments and left-out values of the interface."""

import importlib
import inspect
import unittest

FUNCTIONS = """
numbers plain(sign, figures, power)
numbers end(sign)
numbers nothing()
numbers told(number)
numbers lead_of(number)
numbers need_number(thing)
texts written(number)
texts read(text)
ways way_of(name)
settling settled(context, sign, exact, ideal)
settling nought(context, sign, ideal)
settling void(context)
settling rounded(context, number)
sums plus(context, one, other)
sums minus(context, one, other)
sums times(context, one, other)
sums fused(context, one, other, third)
comparing compared(one, other)
comparing lesser(context, one, other)
comparing greater(context, one, other)
dividing over(context, one, other)
dividing whole_over(context, one, other)
dividing rest_of(context, one, other)
powers root(context, one)
powers to_power(context, one, count)
others same_power(context, one, other)
others to_whole(context, one)
others trimmed(context, one)
others scaled(context, one, count)
others next_up(context, one)
others next_down(context, one)
desk played(lines)
""".strip().split("\n")

CLASSES = """
ways Way name(self)
ways Way goes_up(self, sign, last, part)
ways Way to_end(self, sign)
contexts Context __init__(self, room=9, way='half even', least=None, most=60)
contexts Context way(self)
contexts Context lowest(self)
contexts Context flags(self)
contexts Context clear(self)
contexts Context trap(self, names)
contexts Context traps(self)
contexts Context raised(self, names)
exact Exact first(self)
exact Exact at(self, power)
exact Ratio __init__(self, top, bottom, power=0)
exact Ratio first(self)
exact Ratio at(self, power)
exact Root __init__(self, top, power=0)
exact Root first(self)
exact Root at(self, power)
""".strip().split("\n")


def found(module, name):
    return getattr(importlib.import_module("tenreckon." + module), name)


class InterfaceTest(unittest.TestCase):
    def test_functions(self):
        for row in FUNCTIONS:
            module, signature = row.split(" ", 1)
            name = signature.partition("(")[0]
            self.assertEqual(name + str(inspect.signature(found(module, name))), signature)

    def test_classes(self):
        for row in CLASSES:
            module, name, signature = row.split(" ", 2)
            method = signature.partition("(")[0]
            self.assertEqual(method + str(inspect.signature(getattr(found(module, name), method))), signature)

    def test_the_rest_is_there(self):
        for module, name in (("numbers", "Number"), ("ways", "WAYS"), ("contexts", "SIGNALS")):
            found(module, name)
        for name in ("ReckonError", "BadNumber", "NoText", "BadContext", "BadCount", "Trapped"):
            found("errors", name)


if __name__ == "__main__":
    unittest.main()
