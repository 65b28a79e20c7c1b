"""The largest inputs within the bounds end within seconds."""

import time
import unittest

from halfquick.alike import (
    are_alike, at_end, at_rest, in_front, least_plan, numbers_sorted, one_after_other, only_other, parting_list,
    row_list, sorts_all, stops, unsorted_list,
)
from halfquick.counts import count_by_splits, count_inputs, count_sorted, count_staying, cuts, each_input
from halfquick.errors import NotOnePlan, TooMany
from halfquick.kinds import Parts
from halfquick.plans import carried_out, left_open, lost, needed_pivots, pivots, strict, word_of
from halfquick.sides import count_by_passes, passes_needed, records_ahead, right_passes_needed
from halfquick.text import format_plan, format_values, parse_plan, parse_values
from tests.model import ONCE, TWELVE_IN_A_RING, TWELVE_LEVELS, WHOLE
from tests.test_alike import RING_OF_11, RING_OF_12, STOPS_LATE, STOPS_OFTEN
from tests.test_counts import FROM_5000

SECONDS = 5
BIG = 10 ** 20 - 60
RISING = [BIG + step for step in range(60)]
FALLING = RISING[::-1]
MIXED = [BIG + step * 23 % 60 for step in range(60)]
EQUAL = [BIG] * 60
IN_PAIRS = [BIG + step // 2 for step in range(60)]
LISTS = [RISING, FALLING, MIXED, EQUAL, IN_PAIRS]
EVERYWHERE = [((place * 5 + 1) % 12, (place * 7 + 3) % 12) for place in range(12)]
LARGE_PLANS = [WHOLE, TWELVE_IN_A_RING, TWELVE_LEVELS, EVERYWHERE]
# Cuts at the first places and at the last ones alone, so that the lists are long and yet not too many.
FROM_MANY = [0, 1, 2] + [4] + [3] * 53 + [5, 6, 7]


class Bounds(unittest.TestCase):
    def within_seconds(self, function, *arguments, **more):
        start = time.perf_counter()
        result = function(*arguments, **more)
        self.assertLess(time.perf_counter() - start, SECONDS, function.__name__)
        return result

    def test_plans_on_lists_of_60_values(self):
        for plan in LARGE_PLANS:
            for values in LISTS:
                for function in (strict, lost, pivots, left_open):
                    self.within_seconds(function, plan, values)
                self.within_seconds(carried_out, plan, values, passes=60)

    def test_lists_of_60_values(self):
        for values in LISTS:
            self.within_seconds(word_of, values, 59)
            self.within_seconds(needed_pivots, values)
            self.within_seconds(cuts, values)

    def test_where_60_values_come_from(self):
        for plan in LARGE_PLANS:
            for values in LISTS:
                self.within_seconds(count_inputs, plan, values)

    def test_5000_lists(self):
        self.assertEqual(len(self.within_seconds(lambda: list(each_input(ONCE, FROM_5000)))), 5000)

    def test_thousands_of_lists_of_60_values(self):
        found = self.within_seconds(lambda: list(each_input(ONCE, FROM_MANY)))
        self.assertEqual(len(found), 2 * (1 + 59 + 1711))

    def test_parts_from_far_too_many_lists(self):
        values = [1, 0] + list(range(2, 60))
        self.assertEqual(self.within_seconds(lambda: list(each_input(WHOLE, values))), [])

    def test_size_60(self):
        for plan in LARGE_PLANS:
            self.within_seconds(count_sorted, plan, 60)
            self.within_seconds(count_staying, plan, 60)

    def test_pairs_of_plans_of_12_places(self):
        back_to_the_first = [(place + 1, 0) for place in range(11)] + [(None, 0)]
        to_left_alone = [(place + 1, None) for place in range(11)] + [(None, None)]
        plans = LARGE_PLANS + [RING_OF_11, RING_OF_12, STOPS_LATE, STOPS_OFTEN, back_to_the_first, to_left_alone]
        for plan in plans:
            for other in plans:
                for function in (only_other, parting_list, are_alike, self.one_after_other):
                    self.within_seconds(function, plan, other)

    def one_after_other(self, plan, other):
        try:
            one_after_other(plan, other)
        except (NotOnePlan, TooMany):
            pass

    def test_plans_of_12_places(self):
        for plan in LARGE_PLANS + [RING_OF_11, RING_OF_12, STOPS_LATE, STOPS_OFTEN]:
            for function in (sorts_all, unsorted_list, least_plan, in_front, at_end, at_rest, numbers_sorted):
                self.within_seconds(function, plan)
            text = self.within_seconds(format_plan, plan)
            self.within_seconds(parse_plan, text)
            self.within_seconds(stops, plan, "lr" * 30)
        self.within_seconds(row_list, "rl" * 30)

    def test_passes_on_lists_of_60_values(self):
        for values in LISTS:
            for plan in LARGE_PLANS + [ONCE, [(None, 0)]]:
                self.within_seconds(passes_needed, plan, values)
            self.within_seconds(right_passes_needed, values)
            self.within_seconds(records_ahead, values, 59)

    def test_size_60_by_60_passes(self):
        self.within_seconds(count_by_passes, 60, passes=60)

    def test_60_values_by_hand(self):
        for values in LISTS:
            self.within_seconds(self.split_all, values)

    def split_all(self, values):
        parts = Parts(values)
        while parts.waiting:
            parts.split(parts.waiting[-1][0])
            self.assertLessEqual(len(parts.done), 60)
        self.assertEqual((parts.row, parts.needed), (sorted(values), 0))
        while parts.done:
            parts.undo()
        self.assertEqual(parts.row, values)
        self.within_seconds(lambda: parts.needed)

    def test_texts(self):
        for values in LISTS:
            self.within_seconds(parse_values, self.within_seconds(format_values, values))
        for text in ("1" * 2000, "1 " * 1000, "-" * 2000, " " * 2000, "\n" * 2000, "0 0\n" * 500):
            for function in (parse_values, parse_plan):
                self.within_seconds(self.tried, function, text)

    def tried(self, function, text):
        try:
            function(text)
        except ValueError:
            pass

    def test_size_20_by_splits(self):
        self.within_seconds(lambda: [count_by_splits(20, number) for number in range(21)])


if __name__ == "__main__":
    unittest.main()
