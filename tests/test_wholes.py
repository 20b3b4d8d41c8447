"""Products of many alike whole numbers, which every reckoning with powers of ten stands on ([2], [7], [12])."""

import unittest

from tenreckon.wholes import product_of, ten_to


class WholesTest(unittest.TestCase):
    def test_products(self):
        for whole in (0, 1, 2, 3, 9, 10, 12, 10 ** 24 - 1, 10 ** 60 - 1):
            for count in list(range(33)) + [63, 64, 65, 100, 255, 256]:
                self.assertEqual(product_of(whole, count), whole ** count, (whole, count))

    def test_powers_of_ten(self):
        for count in list(range(140)) + [460, 999, 1000, 2000, 4000, 4095, 4096, 4097, 6000]:
            self.assertEqual(ten_to(count), 10 ** count, count)

    def test_a_product_of_none_is_one(self):
        self.assertEqual([product_of(7, 0), product_of(0, 0), ten_to(0)], [1, 1, 1])


if __name__ == "__main__":
    unittest.main()
