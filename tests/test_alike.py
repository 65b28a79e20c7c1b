"""Plans alike, plans that sort more, and what holds for every list (points 5, 12 to 14, 18, 19, 21 and 22)."""

import unittest
from itertools import product
from math import factorial

from halfquick.alike import (
    are_alike, at_end, at_rest, in_front, least_plan, numbers_sorted, only_other, parting_list, row_list, sorts_all,
    stops, unsorted_list,
)
from halfquick.counts import count_sorted, count_staying
from halfquick.plans import carried_out, left_open
from tests import model
from tests.model import (
    ENOUGH, LARGER_PLANS, LEFT_ONLY, ONCE, PLANS, RIGHT_ONLY, SMALL_PLANS, TWELVE_IN_A_RING, TWELVE_LEVELS, WHOLE,
    beginning_stops, list_of_row, lists_over, orders, outcomes, passed, plans_of, right_steps, shortest_stopping_rows,
    sorted_orders, stopping_rows,
)

ROWS = ["".join(row) for length in range(6) for row in product("lr", repeat=length)]
# Step l alone stops, and only behind so many steps r; else it leads back to the beginning.
RING_OF_11 = [(None if place == 10 else 0, (place + 1) % 11) for place in range(11)]
RING_OF_12 = [(None if place == 10 else 0, (place + 1) % 12) for place in range(12)]
# The same the other way round: behind so many steps r alone, step l does not stop.
STOPS_LATE = [(None if place == 11 else 0, (place + 1) % 12) for place in range(12)]
STOPS_OFTEN = [(0 if place == 10 else None, (place + 1) % 11) for place in range(11)]


def first_order(size, is_wanted):
    """The first one of the orders of the numbers from 0 on whose number is wanted, or None."""
    return next((row for number, row in enumerate(orders(size)) if is_wanted(number)), None)


def first_unsorted(plan):
    for size in range(ENOUGH + 1):
        is_sorted = sorted_orders(plan, size)
        found = first_order(size, lambda number: not is_sorted[number])
        if found is not None:
            return found
    return None


def first_only_other(plan, other):
    for size in range(ENOUGH + 1):
        if sorted_orders(plan, size) != sorted_orders(other, size):
            first, second = sorted_orders(plan, size), sorted_orders(other, size)
            found = first_order(size, lambda number: second[number] and not first[number])
            if found is not None:
                return found
    return None


def first_parting(plan, other):
    for size in range(ENOUGH + 1):
        first, second = outcomes(plan, size), outcomes(other, size)
        if first != second:
            return first_order(size, lambda number: first[number] != second[number])
    return None


class Stops(unittest.TestCase):
    def test_against_steps_taken_one_by_one(self):
        for plan in PLANS:
            for row in ROWS:
                self.assertIs(stops(plan, row), model.stops(plan, row), (plan, row))

    def test_plan_without_places(self):
        self.assertIs(stops([], ""), True)
        self.assertIs(stops([], "l"), False)
        self.assertIs(stops([], "r" * 60), False)

    def test_empty_row(self):
        for plan in PLANS:
            self.assertIs(stops(plan, ""), plan == [])

    def test_a_row_whose_beginning_stops_leads_nowhere(self):
        self.assertIs(stops(LEFT_ONLY, "r"), True)
        for row in ("rl", "rr", "r" * 60, "lrl", "lr" + "l" * 58):
            self.assertIs(stops(LEFT_ONLY, row), False)

    def test_rows_of_60_steps(self):
        self.assertIs(stops(LEFT_ONLY, "l" * 60), False)
        self.assertIs(stops(LEFT_ONLY, "l" * 59 + "r"), True)
        self.assertIs(stops(LEFT_ONLY, "l" * 58 + "rr"), False)
        self.assertIs(stops(WHOLE, "lr" * 30), False)
        self.assertIs(stops(RING_OF_12, "r" * 58 + "l"), True)
        self.assertIs(stops(RING_OF_12, "r" * 59 + "l"), False)

    def test_places_to_which_no_row_leads(self):
        self.assertIs(stops([(0, 0), (None, None)], "l"), False)
        self.assertIs(stops([(2, 2), (None, None), (2, None)], "lr"), True)


class RowList(unittest.TestCase):
    def test_against_numbers_taken_one_by_one(self):
        for row in ROWS:
            self.assertEqual(row_list(row), list_of_row(row))

    def test_single_rows(self):
        self.assertEqual(row_list(""), [1, 0])
        self.assertEqual(row_list("l"), [2, 1, 0])
        self.assertEqual(row_list("r"), [0, 2, 1])
        self.assertEqual(row_list("lr"), [3, 0, 2, 1])
        self.assertEqual(row_list("llrl"), [5, 4, 0, 3, 2, 1])

    def test_rows_of_60_steps(self):
        self.assertEqual(row_list("l" * 60), list(range(61, -1, -1)))
        self.assertEqual(row_list("r" * 60), [*range(60), 61, 60])
        self.assertEqual(row_list("lr" * 30), list_of_row("lr" * 30))
        self.assertEqual(sorted(row_list("rrl" * 20)), list(range(62)))

    def test_the_last_row_in_the_alphabet_has_the_least_list(self):
        for length in range(7):
            rows = sorted("".join(row) for row in product("lr", repeat=length))
            lists = [row_list(row) for row in rows]
            self.assertEqual(lists, sorted(lists, reverse=True))
            self.assertEqual(len({tuple(values) for values in lists}), 2 ** length)

    def test_a_plan_in_which_the_row_stops_leaves_one_pair_open(self):
        for plan in PLANS:
            for row in stopping_rows(plan, 3) + stopping_rows(plan, 4):
                self.assertEqual(left_open(plan, row_list(row)), [(len(row), len(row) + 1)])


class Unsorted(unittest.TestCase):
    def check(self, plan, expected):
        self.assertEqual(unsorted_list(plan), expected, plan)
        self.assertIs(sorts_all(plan), expected is None, plan)

    def test_against_all_orders(self):
        for plan in SMALL_PLANS:
            self.check(plan, first_unsorted(plan))

    def test_by_the_shortest_rows(self):
        for plan in LARGER_PLANS[:-1] + plans_of(3)[::37]:
            rows = shortest_stopping_rows(plan)
            self.check(plan, min(map(list_of_row, rows), default=None))

    def test_edges(self):
        self.check([], [1, 0])
        self.check(ONCE, [0, 2, 1])
        self.check(RIGHT_ONLY, [2, 1, 0])
        self.check(WHOLE, None)
        self.check([(0, 0), (None, None)], None)
        self.check([(1, 0), (2, 0), (1, 1), (None, 0)], None)
        self.check(TWELVE_LEVELS, [*range(12), 13, 12])
        self.check(TWELVE_IN_A_RING, None)
        self.check(STOPS_LATE, [*range(11), 13, 12, 11])

    def test_the_list_is_not_sorted_and_shorter_ones_are(self):
        for plan in PLANS:
            values = unsorted_list(plan)
            if values is not None:
                self.assertNotEqual(carried_out(plan, values), sorted(values))
                self.assertEqual(len(left_open(plan, values)), 1)
                size = len(values)
                self.assertEqual(count_sorted(plan, size - 1), factorial(size - 1))
                self.assertLess(count_sorted(plan, size), factorial(size))

    def test_plans_that_sort_all_orders_of_sixty_values(self):
        for plan in PLANS:
            self.assertEqual(sorts_all(plan), count_sorted(plan, 60) == factorial(60))


class OnlyOther(unittest.TestCase):
    def test_against_all_orders(self):
        for plan in SMALL_PLANS:
            for other in SMALL_PLANS:
                self.assertEqual(only_other(plan, other), first_only_other(plan, other), (plan, other))

    def test_by_the_shortest_rows(self):
        plans = LARGER_PLANS[:-2] + SMALL_PLANS[::9]
        # Two of these plans have at most twelve pairs of places, so rows of twelve steps tell all.
        rows_of = [[set(stopping_rows(plan, length)) for length in range(13)] for plan in plans]
        for plan, rows in zip(plans, rows_of):
            for other, other_rows in zip(plans, rows_of):
                expected = None
                for length in range(13):
                    left = [
                        row for row in rows[length]
                        if not any(row[:shorter] in other_rows[shorter] for shorter in range(length + 1))
                    ]
                    if left:
                        expected = list_of_row(max(left))
                        break
                self.assertEqual(only_other(plan, other), expected, (plan, other))

    def test_a_plan_and_itself(self):
        for plan in PLANS:
            self.assertIsNone(only_other(plan, plan))

    def test_all_and_nothing(self):
        for plan in PLANS:
            self.assertIsNone(only_other(WHOLE, plan))
            self.assertIsNone(only_other(plan, []))
            self.assertEqual(only_other(plan, WHOLE), unsorted_list(plan))
            self.assertEqual(only_other([], plan), [1, 0] if plan else None)

    def test_a_row_longer_than_callers_may_pass(self):
        row = "r" * 131 + "l"
        self.assertTrue(model.stops(STOPS_LATE, row))
        self.assertFalse(beginning_stops(STOPS_OFTEN, row))
        self.assertEqual(only_other(STOPS_LATE, STOPS_OFTEN), list_of_row(row))

    def test_the_plan_that_sorts_more_puts_in_order_what_the_other_one_does(self):
        for plan in PLANS[::4] + LARGER_PLANS:
            for other in PLANS[::7]:
                if only_other(plan, other) is None:
                    self.assertGreaterEqual(count_sorted(plan, 9), count_sorted(other, 9))
                    for values in orders(4)[::5] + lists_over(3, 4)[::9]:
                        self.assertLessEqual(set(left_open(plan, values)), set(left_open(other, values)))

    def test_the_list_shows_it(self):
        for plan in PLANS[::3]:
            for other in PLANS[::4]:
                values = only_other(plan, other)
                if values is not None:
                    self.assertEqual(carried_out(other, values), sorted(values))
                    self.assertEqual(len(left_open(plan, values)), 1)


class Alike(unittest.TestCase):
    def check(self, plan, other, expected):
        self.assertEqual(parting_list(plan, other), expected, (plan, other))
        self.assertIs(are_alike(plan, other), expected is None, (plan, other))

    def test_against_all_orders(self):
        for plan in SMALL_PLANS:
            for other in SMALL_PLANS:
                self.check(plan, other, first_parting(plan, other))

    def test_against_all_rows(self):
        for plan in LARGER_PLANS[:-1]:
            for other in LARGER_PLANS[:-1]:
                rows = []
                for length in range(13):
                    rows = sorted(set(stopping_rows(plan, length)) ^ set(stopping_rows(other, length)))
                    if rows:
                        break
                self.check(plan, other, list_of_row(rows[-1]) if rows else None)

    def test_edges(self):
        self.check([], [], None)
        self.check([], WHOLE, [1, 0])
        self.check(ONCE, [], [1, 0])
        self.check(WHOLE, TWELVE_IN_A_RING, None)
        self.check(WHOLE, [(0, 0), (None, 1)], None)
        self.check([(1, 1), (None, None)], [(2, 1), (0, 2), (None, None)], [0, 1, 3, 2])
        self.check(TWELVE_LEVELS, TWELVE_LEVELS[:-1] + [(11, None)], [*range(11), 13, 12, 11])

    def test_a_late_difference(self):
        # The number of steps is as large as it may be: one less than the sum of the numbers of places.
        self.check(RING_OF_11, RING_OF_12, list_of_row("r" * 21 + "l"))

    def test_the_order_of_the_plans_does_not_matter(self):
        for plan in PLANS[::3]:
            for other in PLANS[::5]:
                self.assertEqual(parting_list(plan, other), parting_list(other, plan))

    def test_alike_plans_do_the_same(self):
        for plan in PLANS[::2] + LARGER_PLANS:
            for other in PLANS:
                if are_alike(plan, other):
                    self.assertEqual(count_sorted(plan, 8), count_sorted(other, 8))
                    self.assertEqual(count_staying(plan, 8), count_staying(other, 8))
                    for values in lists_over(3, 4)[::8] + orders(5)[::11]:
                        self.assertEqual(carried_out(plan, values), carried_out(other, values))

    def test_one_plan_sorts_the_list_and_the_other_one_leaves_one_pair(self):
        for plan in PLANS[::2]:
            for other in PLANS[::3]:
                values = parting_list(plan, other)
                if values is not None:
                    pairs = sorted([left_open(plan, values), left_open(other, values)])
                    self.assertEqual(pairs, [[], [(len(values) - 2, len(values) - 1)]])
                    in_order = sorted(values)
                    self.assertIn(in_order, [carried_out(plan, values), carried_out(other, values)])

    def test_alike_exactly_if_each_sorts_what_the_other_one_sorts(self):
        for plan in PLANS[::2]:
            for other in PLANS:
                both = only_other(plan, other) is None and only_other(other, plan) is None
                self.assertEqual(are_alike(plan, other), both)


def rows_stopping_from(plan, entry, most):
    """The rows of at most so many steps that stop from an entry."""
    if entry is None:
        return frozenset([""])
    if most == 0:
        return frozenset()
    left, right = plan[entry]
    lower = rows_stopping_from(plan, left, most - 1)
    upper = rows_stopping_from(plan, right, most - 1)
    return frozenset(["l" + row for row in lower] + ["r" + row for row in upper])


def place_led_to(plan, row):
    entry = 0
    for step in row:
        if entry is None:
            return None
        entry = plan[entry]["lr".index(step)]
    return entry


class LeastPlan(unittest.TestCase):
    def check_numbering(self, plan):
        """The places are numbered in the order in which rows lead to them."""
        reached = []
        for row in sorted(ROWS, key=lambda row: (len(row), row)):
            place = place_led_to(plan, row)
            if place is not None and place not in reached:
                reached.append(place)
        self.assertEqual(reached, list(range(len(plan))))

    def test_plans_of_three_places(self):
        # Two places from which rows of at most three steps tell no difference are alike; two plans, of five.
        least_of = {}
        for plan in plans_of(3):
            least = least_plan(plan)
            rows = rows_stopping_from(plan, 0, 5)
            self.assertEqual(rows_stopping_from(least, 0, 5), rows, plan)
            self.assertEqual(least_of.setdefault(rows, least), least)
            kinds = {rows_stopping_from(least, place, 3) for place in range(len(least))}
            self.assertEqual(len(kinds), len(least))
            self.check_numbering(least)

    def test_there_is_no_smaller_one_and_no_other_one(self):
        for plan in SMALL_PLANS:
            least = least_plan(plan)
            alike = [other for other in SMALL_PLANS if first_parting(plan, other) is None]
            fewest = min(map(len, alike))
            self.assertEqual(len(least), fewest)
            self.assertIn(least, alike)
            for other in alike:
                self.assertEqual(least_plan(other), least)

    def test_edges(self):
        self.assertEqual(least_plan([]), [])
        self.assertEqual(least_plan(WHOLE), [(0, 0)])
        self.assertEqual(least_plan(TWELVE_IN_A_RING), [(0, 0)])
        self.assertEqual(least_plan(TWELVE_LEVELS), TWELVE_LEVELS)
        self.assertEqual(least_plan([(2, 1), (None, 0), (None, None)]), [(1, 2), (None, None), (None, 0)])
        self.assertEqual(least_plan([(0, 0), (None, None)]), [(0, 0)])
        self.assertEqual(least_plan([(3, 3), (None, None), (1, 1), (None, None)]), [(1, 1), (None, None)])
        self.assertEqual(least_plan([(1, None)] + [(place + 1, None) for place in range(1, 11)] + [(0, None)]),
                         LEFT_ONLY)
        self.assertEqual(least_plan(STOPS_LATE), [(0, 1)] + [(0, place + 1) for place in range(1, 11)] + [(None, 0)])

    def test_numbers_are_given_in_the_order_of_rows(self):
        # Rows l, r, ll, lr, rl, rr and so on lead to new places.
        plan = [(6, 5), (1, 1), (None, 2), (2, None), (None, 3), (4, 3), (2, 1)]
        self.assertEqual(least_plan(plan), [(1, 2), (3, 4), (5, 6), (None, 3), (4, 4), (None, 6), (3, None)])

    def test_largest_plans(self):
        for plan in (RING_OF_11, RING_OF_12, STOPS_LATE, STOPS_OFTEN):
            least = least_plan(plan)
            self.assertEqual(len(least), len(plan))
            self.assertEqual(sorted(place_led_to(least, "r" * steps) for steps in range(len(plan))),
                             list(range(len(plan))))
            self.assertIsNone(parting_list(least, plan))

    def test_the_least_plan_of_the_least_plan(self):
        for plan in PLANS:
            least = least_plan(plan)
            self.assertEqual(least_plan(least), least)
            self.assertIs(are_alike(plan, least), True)


def values_in_front(result):
    """How many of the least values stand in front, in order; all of them, if the list is in order."""
    number = 0
    while number < len(result) and result[number] == sorted(result)[number]:
        number += 1
    return number


def values_at_end(result):
    return values_in_front([-value for value in reversed(result)])


class InFrontAndAtEnd(unittest.TestCase):
    def check(self, plan, found, number_of):
        """The number holds for all small lists, and one more does not."""
        results = [result for size in range(ENOUGH + 1) for result in outcomes(plan, size)]
        results += [passed(plan, values) for values in lists_over(3, 4)]
        fewest = min([number_of(result) for result in results if result != sorted(result)], default=None)
        self.assertEqual(found, fewest, plan)

    def test_in_front(self):
        for plan in SMALL_PLANS:
            self.check(plan, in_front(plan), values_in_front)

    def test_at_end(self):
        for plan in SMALL_PLANS:
            self.check(plan, at_end(plan), values_at_end)

    def test_by_rows(self):
        for plan in LARGER_PLANS[:-1]:
            rows = [row for length in range(13) for row in stopping_rows(plan, length)]
            self.assertEqual(in_front(plan), min((row.count("r") for row in rows), default=None), plan)
            self.assertEqual(at_end(plan), min((row.count("l") for row in rows), default=None), plan)

    def test_edges(self):
        for plan, first, last in [
            ([], 0, 0), (WHOLE, None, None), (LEFT_ONLY, 1, 0), (RIGHT_ONLY, 0, 1), (ONCE, 0, 0),
            (TWELVE_LEVELS, 0, 0), (TWELVE_IN_A_RING, None, None), ([(0, 0), (None, None)], None, None),
            (RING_OF_12, 10, 1), (STOPS_LATE, 11, 1),
            ([(0, place + 1) for place in range(11)] + [(0, None)], 12, 0),
            ([(place + 1, 0) for place in range(11)] + [(None, 0)], 0, 12),
            ([(place + 1, place + 1) for place in range(11)] + [(None, 11)], 0, 1),
        ]:
            self.assertEqual((in_front(plan), at_end(plan)), (first, last), plan)


class AtRest(unittest.TestCase):
    def test_against_second_passes(self):
        for plan in SMALL_PLANS:
            rests = all(
                passed(plan, result) == result for size in range(ENOUGH + 1) for result in outcomes(plan, size)
            )
            self.assertIs(at_rest(plan), rests, plan)

    def test_by_rows(self):
        for plan in LARGER_PLANS[:-1]:
            rows = [row for length in range(13) for row in stopping_rows(plan, length)]
            fewest = min([row.count("r") for row in rows], default=None)
            self.assertIs(at_rest(plan), not rows or fewest == right_steps(plan), plan)

    def test_edges(self):
        for plan, rests in [
            ([], True), (WHOLE, True), (LEFT_ONLY, True), (RIGHT_ONLY, False), (ONCE, False),
            (TWELVE_LEVELS, False), (TWELVE_IN_A_RING, True), (RING_OF_12, False),
            ([(0, place + 1) for place in range(11)] + [(0, None)], True),
            ([(1, 0), (1, 2), (2, 2)], True), ([(0, 1), (0, None)], True), ([(0, 1), (1, None)], True),
            ([(1, 1), (0, None)], False), ([(1, 2), (0, 0), (1, None)], True),
        ]:
            self.assertIs(at_rest(plan), rests, plan)


class NumbersSorted(unittest.TestCase):
    def test_against_all_lists_of_few_numbers(self):
        results = lists_over(4, 5) + [row for row in lists_over(3, 7) if len(row) > 5][::5]
        for plan in plans_of(0) + plans_of(1) + plans_of(2)[::3]:
            unsorted = [len(set(row)) for row in results if passed(plan, row) != sorted(row)]
            # The fewest numbers of which a list is not sorted are one more than the answer.
            self.assertEqual(numbers_sorted(plan), min(unsorted) - 1 if unsorted else None, plan)

    def test_long_lists(self):
        for plan, number in [(RIGHT_ONLY, 2), ([(1, 0), (None, 1)], 3)]:
            self.assertEqual(numbers_sorted(plan), number)
            falling = list(range(number - 1, -1, -1))
            for values in (falling * 15, falling[::-1] * 15, [value for value in falling for _ in range(15)]):
                self.assertEqual(carried_out(plan, values), sorted(values))
            values = list(range(number, -1, -1)) * 15
            self.assertNotEqual(carried_out(plan, values), sorted(values))

    def test_it_is_one_more_than_the_values_at_the_end(self):
        for plan in PLANS:
            number = at_end(plan)
            self.assertEqual(numbers_sorted(plan), None if number is None else number + 1)
            self.assertEqual(numbers_sorted(plan) is None, sorts_all(plan))

    def test_edges(self):
        self.assertEqual(numbers_sorted([]), 1)
        self.assertEqual(numbers_sorted(ONCE), 1)
        self.assertEqual(numbers_sorted(TWELVE_LEVELS), 1)
        self.assertEqual(numbers_sorted([(place + 1, 0) for place in range(11)] + [(None, 0)]), 13)
        self.assertIsNone(numbers_sorted(WHOLE))


if __name__ == "__main__":
    unittest.main()
