"""Numbers of lists, and where a list comes from (points 9 to 12 and 23)."""

import unittest
from itertools import permutations
from math import comb, factorial

from halfquick.counts import count_by_splits, count_inputs, count_sorted, count_staying, cuts, each_input
from halfquick.errors import TooMany
from halfquick.plans import needed_pivots
from tests.model import (
    LEFT_ONLY, ONCE, PLANS, RIGHT_ONLY, TWELVE_LEVELS, WHOLE, Pass, lists_over, mirrored, orders, right_steps,
    shortest_stopping_rows,
)

BIG = 10 ** 20 - 1
BELL = [1, 1, 2, 5, 15, 52, 203, 877, 4140, 21147]
# Lists whose parts begin at places that make sums of binomials come out at the limit exactly.
FROM_5000 = [0] * 2 + [1] + [2] + [3] * 11 + [4] + [5] * 2 + [6]
FROM_5001 = [0] * 2 + [1] + [2] + [3] * 8 + [4] + [5] + [6] * 3


def by_result(plan, rows):
    """All lists of some lists from which each result comes, in ascending order."""
    found = {}
    for row in sorted(rows):
        found.setdefault(tuple(Pass(plan, row).result), []).append(row)
    return found


class Cuts(unittest.TestCase):
    def test_cuts_by_their_words(self):
        for values in lists_over(4, 5) + orders(6):
            expected = [
                place for place, value in enumerate(values)
                if all(other < value for other in values[:place])
                and not any(other < value for other in values[place + 1:])
            ]
            self.assertEqual(cuts(values), expected, values)

    def test_edges(self):
        self.assertEqual(cuts([]), [])
        self.assertEqual(cuts([9]), [0])
        self.assertEqual(cuts([1, 1]), [0])
        self.assertEqual(cuts([2, 1]), [])
        self.assertEqual(cuts(list(range(60))), list(range(60)))
        self.assertEqual(cuts([5] * 60), [0])
        self.assertEqual(cuts([-BIG, BIG - 1, BIG, BIG]), [0, 1, 2])


class Inputs(unittest.TestCase):
    def check(self, plan, rows):
        origins = by_result(plan, rows)
        for row in rows:
            expected = origins.get(tuple(row), [])
            self.assertEqual(list(each_input(plan, row)), expected, (plan, row))
            self.assertEqual(count_inputs(plan, row), len(expected), (plan, row))

    def test_against_all_lists_with_equal_values(self):
        for plan in PLANS:
            for length in range(4):
                self.check(plan, [row for row in lists_over(3, length) if len(row) == length])

    def test_against_all_lists_of_two_values(self):
        for plan in PLANS[::4]:
            self.check(plan, [row for row in lists_over(2, 6) if len(row) == 6])

    def test_against_all_orders(self):
        for plan in PLANS:
            self.check(plan, orders(4))
        for plan in PLANS[::5]:
            self.check(plan, orders(5))

    def test_against_the_orders_of_some_equal_values(self):
        rows = sorted({tuple(row) for row in permutations([1, 1, 2, 3, 3, 4])})
        for plan in PLANS[::11]:
            self.check(plan, [list(row) for row in rows])

    def test_the_numbers_of_all_orders_add_up(self):
        for plan in PLANS:
            for size in range(6):
                total = sum(count_inputs(plan, row) for row in orders(size))
                self.assertEqual(total, factorial(size), plan)

    def test_plan_without_places_and_empty_list(self):
        self.assertEqual(count_inputs([], [2, 1, 1]), 1)
        self.assertEqual(list(each_input([], [2, 1, 1])), [[2, 1, 1]])
        for plan in PLANS:
            self.assertEqual(count_inputs(plan, []), 1)
            self.assertEqual(list(each_input(plan, [])), [[]])

    def test_lists_that_come_from_none(self):
        self.assertEqual(count_inputs(WHOLE, [2, 1]), 0)
        self.assertEqual(list(each_input(WHOLE, [2, 1])), [])
        self.assertEqual(count_inputs(ONCE, [2, 1, 1]), 0)

    def test_large_numbers(self):
        self.assertEqual(count_inputs(WHOLE, list(range(60))), factorial(60))
        self.assertEqual(count_inputs(WHOLE, [1] * 60), 1)
        self.assertEqual(count_inputs(ONCE, list(range(60))), 2 ** 59)
        self.assertEqual(list(each_input(WHOLE, [-BIG, BIG])), [[-BIG, BIG], [BIG, -BIG]])

    def test_sorted_lists_come_from_as_many_as_come_out_sorted(self):
        for plan in PLANS:
            for size in (0, 1, 2, 7, 20):
                self.assertEqual(count_inputs(plan, list(range(size))), count_sorted(plan, size))


class TooManyInputs(unittest.TestCase):
    def test_5000_lists_are_yielded(self):
        found = list(each_input(ONCE, FROM_5000))
        self.assertEqual(count_inputs(ONCE, FROM_5000), 5000)
        self.assertEqual(len(found), 5000)
        self.assertEqual(found, sorted(found))
        self.assertTrue(all(first < second for first, second in zip(found, found[1:])))
        self.assertTrue(all(Pass(ONCE, row).result == FROM_5000 for row in found))

    def test_5001_lists_are_too_many(self):
        with self.assertRaises(TooMany) as caught:
            next(each_input(ONCE, FROM_5001))
        self.assertEqual(caught.exception.count, 5001)

    def test_the_number_is_told(self):
        for plan, values, number in [
            (WHOLE, list(range(7)), 5040),
            (WHOLE, list(range(60)), factorial(60)),
            (LEFT_ONLY, list(range(9)), 21147),
        ]:
            with self.assertRaises(TooMany) as caught:
                list(each_input(plan, values))
            self.assertEqual(caught.exception.count, number)

    def test_a_part_from_no_list_beside_one_from_far_too_many(self):
        # Whichever cut is taken, one part comes from no list, and for most cuts the other one from very many.
        self.assertEqual(list(each_input(WHOLE, [1, 0] + list(range(2, 60)))), [])
        self.assertEqual(list(each_input(WHOLE, list(range(58)) + [59, 58])), [])
        # Here one cut is of use, and beside all others the left part comes from none.
        values = [0, 2, 1] + list(range(3, 60))
        self.assertEqual(list(each_input([(1, None), (1, 1)], values)), [values])
        plan = [(1, 2), (None, 2), (2, 2)]
        values = [1, 0, 2, 9, 8]
        expected = by_result(plan, map(list, permutations(values))).get(tuple(values), [])
        self.assertEqual(list(each_input(plan, values)), expected)


class SortedOrders(unittest.TestCase):
    def test_against_all_orders(self):
        for plan in PLANS:
            for size in range(6):
                expected = sum(Pass(plan, row).result == sorted(row) for row in orders(size))
                self.assertEqual(count_sorted(plan, size), expected, plan)

    def test_plan_without_places(self):
        self.assertEqual([count_sorted([], size) for size in (0, 1, 2, 60)], [1, 1, 1, 1])

    def test_exchanged_entries_change_nothing(self):
        for plan in PLANS:
            for places in ([0], [1], [0, 2], range(12)):
                other = mirrored(plan, places)
                self.assertEqual(count_sorted(other, 9), count_sorted(plan, 9))

    def test_bell_numbers(self):
        ring = [(None, (place + 1) % 12) if place % 3 else ((place + 1) % 12, None) for place in range(12)]
        not_reached = [(0, None), (1, 1), (None, None)]
        for plan in (LEFT_ONLY, RIGHT_ONLY, [(1, None), (None, 0)], ring, not_reached):
            self.assertEqual([count_sorted(plan, size) for size in range(10)], BELL)

    def test_bell_number_of_sixty(self):
        bell = [1]
        for size in range(60):
            bell.append(sum(comb(size, part) * bell[part] for part in range(size + 1)))
        self.assertEqual(count_sorted(LEFT_ONLY, 60), bell[60])

    def test_whole_quicksort_sorts_all(self):
        self.assertEqual([count_sorted(WHOLE, size) for size in (0, 5, 60)], [1, 120, factorial(60)])
        self.assertEqual(count_sorted([(1, 0), (0, 1)], 60), factorial(60))

    def test_the_shortest_rows_that_stop_are_missing(self):
        for plan in PLANS:
            rows = shortest_stopping_rows(plan)
            if rows:
                steps = len(rows[0])
                self.assertEqual(count_sorted(plan, steps + 1), factorial(steps + 1))
                self.assertEqual(count_sorted(plan, steps + 2), factorial(steps + 2) - len(rows))

    def test_twelve_levels(self):
        self.assertEqual(count_sorted(TWELVE_LEVELS, 13), factorial(13))
        self.assertEqual(count_sorted(TWELVE_LEVELS, 14), factorial(14) - 2 ** 12)


class StayingOrders(unittest.TestCase):
    def test_against_all_orders(self):
        for plan in PLANS:
            for size in range(6):
                expected = sum(Pass(plan, row).result == row for row in orders(size))
                self.assertEqual(count_staying(plan, size), expected, plan)

    def test_by_the_steps_r(self):
        for plan in PLANS:
            steps = right_steps(plan)
            for size in (0, 7, 30, 60):
                expected = 1 if steps is None or size < steps else factorial(size - steps)
                self.assertEqual(count_staying(plan, size), expected)

    def test_edges(self):
        self.assertEqual(count_staying([], 60), factorial(60))
        self.assertEqual(count_staying([], 0), 1)
        self.assertEqual(count_staying(RIGHT_ONLY, 60), 1)
        self.assertEqual([count_staying(TWELVE_LEVELS, size) for size in (11, 12, 13, 14, 15)], [1, 1, 1, 2, 6])


class OrdersBySplits(unittest.TestCase):
    def test_against_all_orders(self):
        for size in range(8):
            found = [len(needed_pivots(row)) for row in orders(size)]
            for number in range(size + 2):
                self.assertEqual(count_by_splits(size, number), found.count(number), (size, number))

    def test_all_orders_are_counted(self):
        for size in range(21):
            self.assertEqual(sum(count_by_splits(size, number) for number in range(21)), factorial(size))

    def test_edges(self):
        self.assertEqual([count_by_splits(0, number) for number in (0, 1, 20)], [1, 0, 0])
        self.assertEqual([count_by_splits(1, number) for number in (0, 1, 2)], [1, 0, 0])
        self.assertEqual([count_by_splits(20, number) for number in (0, 20)], [1, 0])
        # All values but one are needed pivots if each one but the last is the least or the greatest that is left.
        self.assertEqual([count_by_splits(size, size - 1) for size in (2, 3, 4, 5, 20)], [1, 2, 4, 8, 2 ** 18])


if __name__ == "__main__":
    unittest.main()
