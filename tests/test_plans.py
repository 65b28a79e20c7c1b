"""What a plan does to a list, and what is told of it without carrying it out (points 5 to 8, 15, 17, 23)."""

import unittest

from halfquick.plans import carried_out, left_open, lost, needed_pivots, pivots, strict, word_of
from tests.model import (
    LARGER_PLANS, LEFT_ONLY, ONCE, PLANS, RIGHT_ONLY, SMALL_PLANS, WHOLE, Pass, beginning_stops, list_of_row,
    lists_over, mirrored, orders, pieces_by_hand, plans_of, right_steps, shortest_stopping_rows, without_doublets,
)

SMALL_LISTS = lists_over(3, 4)
FEW_PLANS = plans_of(0) + plans_of(1) + [[(1, None), (0, None)], [(1, 0), (None, 1)], [(None, 1), (0, None)]]
LONGER_LISTS = lists_over(4, 5) + orders(6)
BIG = 10 ** 20 - 1


class CarriedOut(unittest.TestCase):
    def test_one_pass_does_what_the_document_says(self):
        for plan in PLANS:
            for values in SMALL_LISTS + orders(5):
                self.assertEqual(carried_out(plan, values), Pass(plan, values).result, (plan, values))

    def test_the_four_plans_in_words(self):
        values = [4, 6, 1, 5, 2, 7, 3, 0]
        self.assertEqual(carried_out(WHOLE, values), [0, 1, 2, 3, 4, 5, 6, 7])
        self.assertEqual(carried_out(LEFT_ONLY, values), [0, 1, 2, 3, 4, 6, 5, 7])
        self.assertEqual(carried_out(RIGHT_ONLY, values), [1, 2, 3, 0, 4, 5, 6, 7])
        self.assertEqual(carried_out(ONCE, values), [1, 2, 3, 0, 4, 6, 5, 7])

    def test_equal_values_go_to_the_right(self):
        self.assertEqual(carried_out(ONCE, [2, 3, 2, 1]), [1, 2, 3, 2])
        self.assertEqual(carried_out(RIGHT_ONLY, [2, 3, 2, 1, 1]), [1, 1, 2, 2, 3])
        self.assertEqual(carried_out(LEFT_ONLY, [2, 2, 2]), [2, 2, 2])

    def test_plan_without_places_and_empty_list(self):
        self.assertEqual(carried_out([], [2, 1]), [2, 1])
        self.assertEqual(carried_out([], [2, 1], passes=60), [2, 1])
        for plan in PLANS:
            self.assertEqual(carried_out(plan, []), [])
            self.assertEqual(carried_out(plan, [7], passes=3), [7])

    def test_numbers_of_twenty_digits(self):
        self.assertEqual(carried_out(WHOLE, [BIG, -BIG, BIG - 1, 0]), [-BIG, 0, BIG - 1, BIG])
        self.assertEqual(carried_out(ONCE, [BIG - 1, BIG, -BIG, BIG - 2]), [-BIG, BIG - 2, BIG - 1, BIG])

    def test_passes_one_after_the_other(self):
        for plan in FEW_PLANS + LARGER_PLANS:
            for values in LONGER_LISTS[::7]:
                row = values
                for passes in range(5):
                    self.assertEqual(carried_out(plan, values, passes=passes), row)
                    row = Pass(plan, row).result

    def test_without_a_number_it_is_one_pass(self):
        self.assertEqual(carried_out(RIGHT_ONLY, [3, 2, 1]), carried_out(RIGHT_ONLY, [3, 2, 1], passes=1))

    def test_many_passes(self):
        # Each value behind the first one is put before all greater ones, one place a pass.
        falling = list(range(60, 0, -1))
        self.assertNotEqual(carried_out(RIGHT_ONLY, falling, passes=58), sorted(falling))
        self.assertEqual(carried_out(RIGHT_ONLY, falling, passes=59), sorted(falling))
        self.assertEqual(carried_out(RIGHT_ONLY, falling, passes=60), sorted(falling))
        self.assertEqual(carried_out(RIGHT_ONLY, falling, passes=0), falling)


class WordsAndPivots(unittest.TestCase):
    def test_words_are_those_of_the_whole_quicksort(self):
        for values in LONGER_LISTS:
            words = Pass(WHOLE, values).words
            self.assertEqual([word_of(values, place) for place in range(len(values))],
                             [words[place] for place in range(len(values))], values)

    def test_single_words(self):
        self.assertEqual(word_of([5], 0), "")
        self.assertEqual([word_of([2, 2, 2], place) for place in range(3)], ["", "r", "rr"])
        self.assertEqual(word_of([BIG, BIG - 1, BIG - 2, BIG], 3), "r")
        self.assertEqual(word_of([0, -BIG, -BIG], 2), "lr")
        self.assertEqual(word_of(list(range(60)), 59), "r" * 59)
        self.assertEqual(word_of(list(range(60, 0, -1)), 59), "l" * 59)

    def test_pivots_are_those_of_a_pass(self):
        for plan in PLANS:
            for values in SMALL_LISTS + orders(5):
                self.assertEqual(pivots(plan, values), Pass(plan, values).pivots, (plan, values))

    def test_pivots_are_told_by_words(self):
        for plan in PLANS:
            for values in orders(4) + [[1, 1, 0, 0, 1]]:
                expected = []
                for place in range(len(values)):
                    if not beginning_stops(plan, word_of(values, place)):
                        expected.append(place)
                self.assertEqual(pivots(plan, values), expected)

    def test_pivots_without_places_or_values(self):
        self.assertEqual(pivots([], [2, 1, 3]), [])
        self.assertEqual(pivots(WHOLE, []), [])
        self.assertEqual(pivots(WHOLE, [1] * 60), list(range(60)))
        self.assertEqual(pivots(ONCE, [1] * 60), [0])


class LeftOpen(unittest.TestCase):
    def test_left_open_pairs_are_those_that_a_pass_leaves(self):
        for plan in PLANS:
            for values in SMALL_LISTS + orders(5):
                self.assertEqual(left_open(plan, values), Pass(plan, values).leaves_open(), (plan, values))

    def test_pairs_that_are_in_order_stay_so(self):
        for plan in FEW_PLANS + LARGER_PLANS:
            for values in LONGER_LISTS[::5]:
                order = Pass(plan, values).order
                # The model numbers values, so its result is checked to be that of the package first.
                self.assertEqual(carried_out(plan, values), [values[place] for place in order])
                for second in range(len(values)):
                    for first in range(second):
                        if values[first] <= values[second]:
                            self.assertLess(order.index(first), order.index(second))

    def test_no_pair_is_left_open_exactly_if_the_list_comes_out_sorted(self):
        for plan in PLANS:
            for values in SMALL_LISTS + orders(5):
                self.assertEqual(left_open(plan, values) == [], carried_out(plan, values) == sorted(values))

    def test_edges(self):
        self.assertEqual(left_open([], [3, 2, 2]), [(0, 1), (0, 2)])
        self.assertEqual(left_open([], []), [])
        self.assertEqual(left_open(WHOLE, list(range(60, 0, -1))), [])
        every = [(first, second) for first in range(60) for second in range(first + 1, 60)]
        self.assertEqual(left_open([], list(range(60, 0, -1))), every)
        self.assertEqual(left_open(ONCE, [0, BIG, BIG - 1, -BIG]), [(1, 2)])


class SortedLists(unittest.TestCase):
    """Point 12, as far as lists that come out sorted show it."""

    def test_shortest_lists_that_are_not_sorted(self):
        for plan in SMALL_PLANS:
            rows = shortest_stopping_rows(plan)
            if not rows:
                for values in LONGER_LISTS[::3]:
                    self.assertEqual(carried_out(plan, values), sorted(values))
                continue
            steps = len(rows[0])
            for values in lists_over(3, steps + 1):
                self.assertEqual(left_open(plan, values), [])
                self.assertEqual(carried_out(plan, values), sorted(values))
            unsorted = [row for row in orders(steps + 2) if carried_out(plan, row) != sorted(row)]
            self.assertEqual(unsorted, sorted(map(list_of_row, rows)), plan)
            for row in unsorted:
                self.assertNotEqual(left_open(plan, row), [])


class Passes(unittest.TestCase):
    """Point 15, as far as lists that are carried out on show it."""

    def test_some_passes_sort_every_list_exactly_if_no_row_of_r_stops(self):
        for plan in PLANS:
            sorts = all(carried_out(plan, values, passes=60) == sorted(values) for values in orders(4))
            steps = right_steps(plan)
            if steps is None:
                self.assertTrue(sorts, plan)
            elif steps <= 2:
                self.assertFalse(sorts, plan)

    def test_lists_that_stay(self):
        for plan in PLANS:
            steps = right_steps(plan)
            for values in SMALL_LISTS + orders(5):
                ahead = values[:steps]
                expected = all(value <= min(values[place:]) for place, value in enumerate(ahead))
                self.assertEqual(carried_out(plan, values) == values, expected, (plan, values))


class Strict(unittest.TestCase):
    def test_a_strict_pass_does_what_the_document_says(self):
        for plan in PLANS:
            for values in lists_over(3, 4) + lists_over(2, 6)[::3]:
                expected = Pass(plan, values, strict=True)
                self.assertEqual(strict(plan, values), expected.result, (plan, values))
                self.assertEqual(lost(plan, values), expected.lost, (plan, values))

    def test_without_doublets(self):
        for plan in PLANS:
            for values in lists_over(3, 5)[::2]:
                left = without_doublets(strict(plan, values))
                self.assertEqual(left, carried_out(plan, without_doublets(values)))

    def test_which_values_get_lost(self):
        for plan in PLANS:
            for values in lists_over(3, 5)[::2]:
                firsts = without_doublets(values)
                parting = [firsts[place] for place in pivots(plan, firsts)]
                expected = [place for place, value in enumerate(values) if value in values[:place] and value in parting]
                self.assertEqual(lost(plan, values), expected)

    def test_equal_values_that_are_not_reached_stay(self):
        self.assertEqual(strict(ONCE, [2, 3, 1, 3, 2, 1]), [1, 1, 2, 3, 3])
        self.assertEqual(lost(ONCE, [2, 3, 1, 3, 2, 1]), [4])
        self.assertEqual(strict([], [1, 1, 0]), [1, 1, 0])
        self.assertEqual(lost([], [1, 1, 0]), [])
        self.assertEqual(strict(LEFT_ONLY, [3, 1, 4, 1, 4, 3]), [1, 3, 4, 4])
        self.assertEqual(lost(LEFT_ONLY, [3, 1, 4, 1, 4, 3]), [3, 5])

    def test_edges(self):
        self.assertEqual(strict(WHOLE, []), [])
        self.assertEqual(lost(WHOLE, []), [])
        self.assertEqual(strict(WHOLE, [7] * 60), [7])
        self.assertEqual(lost(WHOLE, [7] * 60), list(range(1, 60)))
        self.assertEqual(strict(WHOLE, [BIG, -BIG, BIG, BIG - 1]), [-BIG, BIG - 1, BIG])


class NeededPivots(unittest.TestCase):
    def test_a_plan_sorts_a_list_exactly_if_the_needed_ones_are_pivots(self):
        for values in lists_over(3, 4) + orders(5):
            needed = set(needed_pivots(values))
            for plan in PLANS:
                self.assertEqual(needed <= set(pivots(plan, values)), carried_out(plan, values) == sorted(values),
                                 (plan, values))

    def test_they_are_the_fewest_splits(self):
        for values in lists_over(3, 4) + orders(5):
            self.assertEqual(needed_pivots(values), self.fewest(values), values)

    def fewest(self, values):
        """The least set of values that are split by hand, so that the list is in order."""
        words = Pass(WHOLE, values).words
        least = None
        for chosen in range(2 ** len(values)):
            split = {place for place in range(len(values)) if chosen >> place & 1}
            # A part waits only if it came of a split, so with each place all places above it are split.
            if any(words[place].startswith(word) and other not in split
                   for place in split for other, word in words.items()):
                continue
            if self.by_hand(values, split) == sorted(values):
                if least is None or len(split) < len(least):
                    least = split
        return sorted(least)

    def by_hand(self, values, split):
        return [values[place] for places, _ in pieces_by_hand(values, split) for place in places]

    def test_the_first_of_equal_values_counts(self):
        self.assertEqual(needed_pivots([1, 1, 0]), [0])
        self.assertEqual(needed_pivots([1, 0, 1]), [0])
        self.assertEqual(needed_pivots([0, 1, 0]), [0, 1])
        self.assertEqual(needed_pivots([0, 1, 1]), [])

    def test_edges(self):
        self.assertEqual(needed_pivots([]), [])
        self.assertEqual(needed_pivots([4] * 60), [])
        self.assertEqual(needed_pivots(list(range(60))), [])
        self.assertEqual(needed_pivots(list(range(60, 0, -1))), list(range(59)))
        self.assertEqual(needed_pivots([BIG, BIG - 1]), [0])
        self.assertEqual(needed_pivots([-BIG, -BIG + 1]), [])


class ExchangedEntries(unittest.TestCase):
    def test_mirrored_plans_have_the_same_pivots_in_mirrored_orders(self):
        for plan in PLANS:
            other = mirrored(plan, range(len(plan)))
            for row in orders(5)[::2]:
                turned = [len(row) - 1 - number for number in row]
                self.assertEqual(pivots(other, turned), pivots(plan, row))


if __name__ == "__main__":
    unittest.main()
