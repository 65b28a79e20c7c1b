"""Passes that are needed, and passes at one side (points 10, 15 and 16)."""

import unittest
from math import factorial

from halfquick.counts import count_sorted
from halfquick.plans import carried_out
from halfquick.sides import count_by_passes, left_levels, levels, passes_needed, records_ahead, right_passes_needed
from tests.model import (
    LEFT_ONLY, ONCE, PLANS, RIGHT_ONLY, SMALL_PLANS, WHOLE, falling_number, lists_over, orders, passed,
    passes_until_at_rest, right_steps,
)

LISTS = lists_over(4, 5) + orders(6)
BIG = 10 ** 20 - 1
FALLING = list(range(60, 0, -1))
RIGHT_PASSES = {
    0: [],
    1: [(None, 0)],
    2: [(1, 0), (None, 1)],
    3: [(1, 0), (2, 1), (None, 2)],
    4: [(1, 0), (2, 1), (3, 2), (None, 3)],
}


class RecordsAhead(unittest.TestCase):
    def test_against_records_counted_one_by_one(self):
        for values in LISTS:
            for place in range(len(values)):
                self.assertEqual(records_ahead(values, place), falling_number(values, place), (values, place))

    def test_only_greater_values_before_count(self):
        self.assertEqual(records_ahead([5], 0), 0)
        self.assertEqual(records_ahead([5, 5, 5], 2), 0)
        self.assertEqual(records_ahead([4, 9, 1, 9, 8, 1, 7, 5], 7), 3)
        self.assertEqual(records_ahead([3, 3, 2, 2, 1], 4), 2)
        self.assertEqual(records_ahead([3, 1, 2, 1], 3), 2)

    def test_long_lists_and_large_numbers(self):
        self.assertEqual([records_ahead(FALLING, place) for place in range(60)], list(range(60)))
        self.assertEqual(records_ahead([7] * 60, 59), 0)
        self.assertEqual(records_ahead([BIG, BIG - 1, -BIG + 1, -BIG], 3), 3)


class PassesNeeded(unittest.TestCase):
    def test_against_passes_carried_out(self):
        for plan in PLANS:
            for values in lists_over(3, 4) + orders(5)[::4]:
                self.assertEqual(passes_needed(plan, values), passes_until_at_rest(plan, values), (plan, values))

    def test_it_is_the_first_number_after_which_nothing_changes(self):
        for plan in PLANS[::3]:
            for values in orders(5)[::7]:
                number = passes_needed(plan, values)
                left = carried_out(plan, values, passes=number)
                self.assertEqual(left, carried_out(plan, values, passes=number + 1))
                if number > 0:
                    self.assertNotEqual(left, carried_out(plan, values, passes=number - 1))

    def test_by_the_numbers_of_the_least_values(self):
        for plan in PLANS:
            steps = right_steps(plan)
            along = [plan[0]] if plan else []
            while along and along[-1][1] is not None and len(along) <= len(plan):
                along.append(plan[along[-1][1]])
            exactly = all(left is None for left, _ in along)
            for values in lists_over(3, 4)[::3] + orders(4) + orders(5)[::9]:
                least = sorted(range(len(values)), key=lambda place: (values[place], place))[:steps]
                most = max([records_ahead(values, place) for place in least], default=0)
                found = passes_needed(plan, values)
                self.assertLessEqual(found, most, (plan, values))
                if exactly:
                    self.assertEqual(found, most, (plan, values))
                self.assertLessEqual(found, max(len(set(values)) - 1, 0))

    def test_edges(self):
        for plan in PLANS:
            self.assertEqual(passes_needed(plan, []), 0)
            self.assertEqual(passes_needed(plan, [3]), 0)
            self.assertEqual(passes_needed(plan, [3] * 60), 0)
        self.assertEqual(passes_needed([], FALLING), 0)
        self.assertEqual(passes_needed(WHOLE, FALLING), 1)
        self.assertEqual(passes_needed(RIGHT_ONLY, FALLING), 59)
        self.assertEqual(passes_needed(ONCE, FALLING), 59)
        self.assertEqual(passes_needed(RIGHT_ONLY, [BIG, 0, -BIG]), 2)

    def test_left_only_needs_no_second_pass(self):
        for values in LISTS:
            self.assertLessEqual(passes_needed(LEFT_ONLY, values), 1)


class RightPasses(unittest.TestCase):
    def test_against_passes_until_sorted(self):
        for values in LISTS:
            number = 0
            row = values
            while row != sorted(values):
                row = passed(RIGHT_ONLY, row)
                number += 1
            self.assertEqual(right_passes_needed(values), number, values)

    def test_edges(self):
        self.assertEqual(right_passes_needed([]), 0)
        self.assertEqual(right_passes_needed([2]), 0)
        self.assertEqual(right_passes_needed([1] * 60), 0)
        self.assertEqual(right_passes_needed(list(range(60))), 0)
        self.assertEqual(right_passes_needed(FALLING), 59)
        self.assertEqual(right_passes_needed([BIG, BIG - 1, BIG, -BIG]), 2)

    def test_it_is_what_the_plan_needs(self):
        for values in LISTS:
            self.assertEqual(right_passes_needed(values), passes_needed(RIGHT_ONLY, values))


class OrdersByPasses(unittest.TestCase):
    def test_against_all_orders(self):
        for size in range(7):
            needed = [passes_until_at_rest(RIGHT_ONLY, row) for row in orders(size)]
            for passes in range(8):
                expected = sum(number <= passes for number in needed)
                self.assertEqual(count_by_passes(size, passes=passes), expected, (size, passes))

    def test_without_a_number_it_is_one_pass(self):
        self.assertEqual([count_by_passes(size) for size in range(7)], [1, 1, 2, 5, 15, 52, 203])

    def test_it_is_the_number_of_one_plan(self):
        for passes, plan in RIGHT_PASSES.items():
            for size in (0, 1, 5, 12, 60):
                self.assertEqual(count_by_passes(size, passes=passes), count_sorted(plan, size))

    def test_no_pass_sorts_what_is_in_order(self):
        self.assertEqual([count_by_passes(size, passes=0) for size in (0, 1, 2, 60)], [1, 1, 1, 1])

    def test_as_many_passes_as_values(self):
        for size in (1, 2, 20, 59, 60):
            self.assertEqual(count_by_passes(size, passes=size - 1), factorial(size))
            self.assertEqual(count_by_passes(size, passes=60), factorial(size))
        # Of all orders the falling one alone needs the last pass.
        for size in (2, 3, 20, 60):
            self.assertEqual(count_by_passes(size, passes=size - 2), factorial(size) - 1)

    def test_more_passes_than_places_a_plan_may_have(self):
        for passes in (13, 14, 40):
            self.assertEqual(count_by_passes(passes + 2, passes=passes), factorial(passes + 2) - 1)
            self.assertLess(count_by_passes(60, passes=passes), count_by_passes(60, passes=passes + 1))


class OnePassForMany(unittest.TestCase):
    def test_right_passes_are_one_pass(self):
        for passes, plan in RIGHT_PASSES.items():
            for values in LISTS:
                self.assertEqual(carried_out(plan, values), carried_out(RIGHT_ONLY, values, passes=passes))

    def test_single_partings_are_one_pass(self):
        for passes in range(6):
            for values in LISTS:
                expected = carried_out(ONCE, values, passes=passes)
                self.assertEqual(carried_out(left_levels(passes), values), expected)
        row = FALLING
        for _ in range(12):
            row = passed(ONCE, row)
        self.assertEqual(carried_out(left_levels(12), FALLING), row)

    def test_left_only_at_rest(self):
        for values in LISTS:
            self.assertEqual(carried_out(LEFT_ONLY, values, passes=2), carried_out(LEFT_ONLY, values))


class Levels(unittest.TestCase):
    def test_levels(self):
        self.assertEqual(levels(0), [])
        self.assertEqual(levels(1), [(None, None)])
        self.assertEqual(levels(2), [(1, 1), (None, None)])
        self.assertEqual(levels(4), [(1, 1), (2, 2), (3, 3), (None, None)])
        self.assertEqual(levels(12), [(place, place) for place in range(1, 12)] + [(None, None)])

    def test_left_levels(self):
        self.assertEqual(left_levels(0), [])
        self.assertEqual(left_levels(1), [(None, None)])
        self.assertEqual(left_levels(2), [(1, None), (None, None)])
        self.assertEqual(left_levels(4), [(1, None), (2, None), (3, None), (None, None)])
        self.assertEqual(left_levels(12), [(place, None) for place in range(1, 12)] + [(None, None)])

    def test_so_many_levels_are_sorted(self):
        for number in range(5):
            for values in LISTS:
                self.assertEqual(carried_out(levels(number), values), self.to_level(values, number))

    def to_level(self, values, number):
        if number == 0 or not values:
            return values
        lower = [value for value in values[1:] if value < values[0]]
        upper = [value for value in values[1:] if value >= values[0]]
        return [*self.to_level(lower, number - 1), values[0], *self.to_level(upper, number - 1)]


class SomePasses(unittest.TestCase):
    def test_some_passes_sort_every_list_exactly_if_no_row_of_r_stops(self):
        for plan in SMALL_PLANS:
            sorts = all(
                carried_out(plan, values, passes=passes_needed(plan, values)) == sorted(values) for values in orders(4)
            )
            self.assertEqual(sorts, right_steps(plan) is None, plan)


if __name__ == "__main__":
    unittest.main()
