"""Things that are no whole numbers, no texts and no Numbers, for the tests of refusals."""

import decimal
import fractions


class Touchy:
    """Fails in its own way wherever it is compared, shown, hashed or counted."""

    def fail(self, *others):
        raise RuntimeError("touched")

    __eq__ = __ne__ = __lt__ = __le__ = __gt__ = __ge__ = fail
    __hash__ = __bool__ = __len__ = __iter__ = __repr__ = __str__ = __int__ = __index__ = fail


def nor_whole_nor_text():
    return [
        None, True, False, 0.0, 1.0, -1.5, float("nan"), float("inf"), 1j, b"", b"1", bytearray(b"1"),
        [], [1], (), (1,), ("plain", 0, 1, 0), {}, {"kind": "plain"}, set(), frozenset([1]), range(2),
        decimal.Decimal(1), fractions.Fraction(1), object(), object, int, str, len, lambda: 1, iter([1]),
        NotImplemented, ..., ValueError("1"), Touchy(),
    ]


def no_wholes():
    return nor_whole_nor_text() + ["", "0", "1", "plain", "end", "none"]


def no_texts():
    return nor_whole_nor_text() + [0, 1, -1, 10 ** 5000]


def no_numbers():
    return no_wholes() + [0, 1, -1, 10 ** 5000]
