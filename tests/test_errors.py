import unittest

from tenreckon.errors import BadContext, BadCount, BadNumber, NoText, ReckonError, Trapped


class ErrorsTest(unittest.TestCase):
    def test_the_base_stands_under_value_error(self):
        self.assertEqual(ReckonError.__bases__, (ValueError,))

    def test_each_stands_straight_under_the_base(self):
        for error in (BadNumber, NoText, BadContext, BadCount, Trapped):
            self.assertEqual(error.__bases__, (ReckonError,))

    def test_none_stands_under_another(self):
        errors = (BadNumber, NoText, BadContext, BadCount, Trapped)
        for one in errors:
            for other in errors:
                self.assertEqual(issubclass(one, other), one is other)

    def test_they_are_raised_with_words(self):
        for error in (ReckonError, BadNumber, NoText, BadContext, BadCount):
            with self.assertRaises(error) as caught:
                raise error("some words")
            self.assertEqual(str(caught.exception), "some words")

    def test_trapped_has_the_signal(self):
        for signal in ("void", "split", "burst", "sunk", "faint", "off", "cut"):
            with self.assertRaises(ReckonError) as caught:
                raise Trapped(signal)
            self.assertIs(type(caught.exception), Trapped)
            self.assertEqual(caught.exception.signal, signal)


if __name__ == "__main__":
    unittest.main()
