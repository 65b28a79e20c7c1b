"""The largest inputs within the bounds end within seconds."""

import time
import unittest

from halfquick.counts import count_by_splits, count_inputs, count_sorted, count_staying, cuts, each_input
from halfquick.plans import carried_out, left_open, lost, needed_pivots, pivots, strict, word_of
from tests.model import ONCE, TWELVE_IN_A_RING, TWELVE_LEVELS, WHOLE
from tests.test_counts import FROM_5000

SECONDS = 5
BIG = 10 ** 20 - 60
RISING = [BIG + step for step in range(60)]
FALLING = RISING[::-1]
MIXED = [BIG + step * 23 % 60 for step in range(60)]
EQUAL = [BIG] * 60
IN_PAIRS = [BIG + step // 2 for step in range(60)]
LISTS = [RISING, FALLING, MIXED, EQUAL, IN_PAIRS]
EVERYWHERE = [((place * 5 + 1) % 12, (place * 7 + 3) % 12) for place in range(12)]
LARGE_PLANS = [WHOLE, TWELVE_IN_A_RING, TWELVE_LEVELS, EVERYWHERE]
# Cuts at the first places and at the last ones alone, so that the lists are long and yet not too many.
FROM_MANY = [0, 1, 2] + [4] + [3] * 53 + [5, 6, 7]


class Bounds(unittest.TestCase):
    def within_seconds(self, function, *arguments, **more):
        start = time.perf_counter()
        result = function(*arguments, **more)
        self.assertLess(time.perf_counter() - start, SECONDS, function.__name__)
        return result

    def test_plans_on_lists_of_60_values(self):
        for plan in LARGE_PLANS:
            for values in LISTS:
                for function in (strict, lost, pivots, left_open):
                    self.within_seconds(function, plan, values)
                self.within_seconds(carried_out, plan, values, passes=60)

    def test_lists_of_60_values(self):
        for values in LISTS:
            self.within_seconds(word_of, values, 59)
            self.within_seconds(needed_pivots, values)
            self.within_seconds(cuts, values)

    def test_where_60_values_come_from(self):
        for plan in LARGE_PLANS:
            for values in LISTS:
                self.within_seconds(count_inputs, plan, values)

    def test_5000_lists(self):
        self.assertEqual(len(self.within_seconds(lambda: list(each_input(ONCE, FROM_5000)))), 5000)

    def test_thousands_of_lists_of_60_values(self):
        found = self.within_seconds(lambda: list(each_input(ONCE, FROM_MANY)))
        self.assertEqual(len(found), 2 * (1 + 59 + 1711))

    def test_parts_from_far_too_many_lists(self):
        values = [1, 0] + list(range(2, 60))
        self.assertEqual(self.within_seconds(lambda: list(each_input(WHOLE, values))), [])

    def test_size_60(self):
        for plan in LARGE_PLANS:
            self.within_seconds(count_sorted, plan, 60)
            self.within_seconds(count_staying, plan, 60)

    def test_size_20_by_splits(self):
        self.within_seconds(lambda: [count_by_splits(20, number) for number in range(21)])


if __name__ == "__main__":
    unittest.main()
