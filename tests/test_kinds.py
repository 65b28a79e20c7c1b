"""Lists that are sorted by hand (points 23 and 24)."""

import copy
import inspect
import unittest

from halfquick import kinds
from halfquick.counts import count_by_splits
from halfquick.errors import InvalidPlace, InvalidValues, NoPart, NothingToUndo
from halfquick.kinds import Parts
from halfquick.plans import carried_out, needed_pivots, pivots
from tests.model import LEFT_ONLY, PLANS, RIGHT_ONLY, lists_over, orders, pieces_by_hand

LISTS = lists_over(3, 5) + orders(4) + orders(5)
BIG = 10 ** 20 - 1
FALLING = list(range(60, 0, -1))


def state_of(parts):
    return parts.row, parts.waiting, parts.done, parts.needed


def expected_state(values, split):
    """What the properties tell if the values at some places of the given list were pivots."""
    row, waiting, done = [], [], []
    for places, waits in pieces_by_hand(values, split):
        if waits:
            waiting.append((len(row), len(places)))
        else:
            done.append(len(row))
        row += [values[place] for place in places]
    needed = [place for place in needed_pivots(values) if place not in split]
    return row, waiting, done, len(needed)


def given_place(values, split, place):
    """The place in the given list of the first value of the waiting part that begins at a place."""
    at = 0
    for places, waits in pieces_by_hand(values, split):
        if waits and at == place:
            return places[0]
        at += len(places)
    return None


class Splits(unittest.TestCase):
    def go_through(self, parts, values, split):
        """Split in all orders, and take back each split; after each of them all must be as it was."""
        before = expected_state(values, split)
        self.assertEqual(state_of(parts), before)
        for start, _ in before[1]:
            pivot = given_place(values, split, start)
            place = parts.split(start)
            self.assertEqual(parts.row[place], values[pivot])
            self.assertIn(place, parts.done)
            self.go_through(parts, values, split | {pivot})
            self.assertIsNone(parts.undo())
            self.assertEqual(state_of(parts), before)

    def test_all_splits_of_small_lists(self):
        for values in LISTS:
            self.go_through(Parts(values), values, set())

    def test_the_place_of_the_pivot(self):
        parts = Parts([2, 3, 1, 2, 0, 2])
        self.assertEqual(parts.split(0), 2)
        self.assertEqual(state_of(parts), ([1, 0, 2, 3, 2, 2], [(0, 2), (3, 3)], [2], 2))
        self.assertEqual(parts.split(3), 5)
        self.assertEqual(state_of(parts), ([1, 0, 2, 2, 2, 3], [(0, 2), (3, 2)], [2, 5], 1))
        self.assertEqual(parts.split(0), 1)
        self.assertEqual(state_of(parts), ([0, 1, 2, 2, 2, 3], [(0, 1), (3, 2)], [1, 2, 5], 0))
        self.assertEqual(parts.split(3), 3)
        self.assertEqual(parts.split(4), 4)
        self.assertEqual(parts.split(0), 0)
        self.assertEqual(state_of(parts), ([0, 1, 2, 2, 2, 3], [], [0, 1, 2, 3, 4, 5], 0))

    def test_the_fewest_splits_are_those_still_needed(self):
        for values in lists_over(3, 4) + orders(4):
            self.assertEqual(self.fewest_splits(Parts(values), sorted(values)), Parts(values).needed)

    def fewest_splits(self, parts, in_order):
        if parts.row == in_order:
            self.assertEqual(parts.needed, 0)
            return 0
        found = []
        for start, _ in parts.waiting:
            parts.split(start)
            found.append(1 + self.fewest_splits(parts, in_order))
            parts.undo()
        self.assertEqual(parts.needed, min(found))
        return min(found)

    def test_as_many_orders_as_are_counted(self):
        for size in range(6):
            found = [Parts(row).needed for row in orders(size)]
            for number in range(size + 1):
                self.assertEqual(found.count(number), count_by_splits(size, number))

    def test_splits_as_a_plan_does_them(self):
        for plan in PLANS[::9]:
            for values in LISTS[::7]:
                chosen = set(pivots(plan, values))
                parts = Parts(values)
                self.assertEqual(self.split_all(parts, values, chosen), len(chosen))
                self.assertEqual(parts.row, carried_out(plan, values))

    def split_all(self, parts, values, chosen):
        """Split each waiting part whose first value is chosen, the last one first."""
        split = set()
        while True:
            starts = [start for start, _ in parts.waiting if given_place(values, split, start) in chosen]
            if not starts:
                return len(split)
            pivot = given_place(values, split, starts[-1])
            parts.split(starts[-1])
            split.add(pivot)


class Edges(unittest.TestCase):
    def test_empty_list(self):
        parts = Parts([])
        self.assertEqual(state_of(parts), ([], [], [], 0))
        with self.assertRaises(NoPart):
            parts.split(0)

    def test_one_value(self):
        parts = Parts([BIG])
        self.assertEqual(state_of(parts), ([BIG], [(0, 1)], [], 0))
        self.assertEqual(parts.split(0), 0)
        self.assertEqual(state_of(parts), ([BIG], [], [0], 0))

    def test_falling_list_of_60_values(self):
        parts = Parts(FALLING)
        for number in range(60):
            self.assertEqual(parts.needed, max(59 - number, 0))
            self.assertEqual(parts.waiting, [(0, 60 - number)])
            self.assertEqual(parts.split(0), 59 - number)
        self.assertEqual(state_of(parts), (FALLING[::-1], [], list(range(60)), 0))
        for _ in range(60):
            parts.undo()
        self.assertEqual(state_of(parts), (FALLING, [(0, 60)], [], 59))
        with self.assertRaises(NothingToUndo):
            parts.undo()

    def test_equal_values(self):
        parts = Parts([4] * 60)
        self.assertEqual(parts.needed, 0)
        for place in range(60):
            self.assertEqual(parts.split(place), place)
        self.assertEqual(parts.done, list(range(60)))

    def test_large_numbers(self):
        parts = Parts([BIG - 1, BIG, -BIG, BIG - 2])
        self.assertEqual(parts.split(0), 2)
        self.assertEqual(state_of(parts), ([-BIG, BIG - 2, BIG - 1, BIG], [(0, 2), (3, 1)], [2], 0))

    def test_undo_takes_back_the_last_split_first(self):
        parts = Parts([2, 1, 4, 3])
        parts.split(0)
        parts.split(2)
        parts.undo()
        self.assertEqual(state_of(parts), ([1, 2, 4, 3], [(0, 1), (2, 2)], [1], 1))
        parts.split(0)
        parts.undo()
        parts.undo()
        self.assertEqual(state_of(parts), ([2, 1, 4, 3], [(0, 4)], [], 2))
        parts.split(0)
        self.assertEqual(parts.done, [1])

    def test_two_objects(self):
        first, second = Parts([2, 1, 3]), Parts([2, 1, 3])
        first.split(0)
        self.assertEqual(state_of(second), ([2, 1, 3], [(0, 3)], [], 1))
        with self.assertRaises(NothingToUndo):
            second.undo()

    def test_plans_in_words(self):
        parts = Parts([3, 5, 2, 4, 1])
        parts.split(0)
        parts.split(0)
        parts.split(0)
        self.assertEqual(parts.row, carried_out(LEFT_ONLY, [3, 5, 2, 4, 1]))
        parts = Parts([3, 5, 2, 4, 1])
        parts.split(parts.split(0) + 1)
        parts.split(3)
        self.assertEqual(parts.row, carried_out(RIGHT_ONLY, [3, 5, 2, 4, 1]))


class Errors(unittest.TestCase):
    def raised(self, kind, function, *arguments):
        with self.assertRaises(kind) as caught:
            function(*arguments)
        self.assertIs(type(caught.exception), kind)
        return caught.exception

    def split_parts(self):
        parts = Parts([3, 1, 2, 5, 4])
        parts.split(0)
        parts.split(0)
        return parts

    def test_values(self):
        self.assertIsNone(self.raised(InvalidValues, Parts, None).index)
        self.assertIsNone(self.raised(InvalidValues, Parts, (1, 2)).index)
        self.assertIsNone(self.raised(InvalidValues, Parts, [1] * 61).index)
        self.assertEqual(self.raised(InvalidValues, Parts, [1, True, None]).index, 1)

    def test_places(self):
        parts = self.split_parts()
        before = state_of(parts)
        self.assertEqual(before, ([1, 2, 3, 5, 4], [(1, 1), (3, 2)], [0, 2], 1))
        for place in (True, False, None, -1, -10 ** 20, 1.0, "1", [1], (1,), object()):
            self.assertIs(self.raised(InvalidPlace, parts.split, place).place, place)
            self.assertEqual(state_of(parts), before)

    def test_no_part(self):
        parts = self.split_parts()
        before = state_of(parts)
        for place in (0, 2, 4, 5, 60, 10 ** 20):
            self.assertIs(self.raised(NoPart, parts.split, place).place, place)
            self.assertEqual(state_of(parts), before)

    def test_nothing_to_undo(self):
        parts = Parts([2, 1])
        for _ in range(2):
            self.assertEqual(vars(self.raised(NothingToUndo, parts.undo)), {})
            self.assertEqual(state_of(parts), ([2, 1], [(0, 2)], [], 1))
        parts.split(0)
        self.raised(NoPart, parts.split, 1)
        parts.undo()
        self.raised(NothingToUndo, parts.undo)
        self.assertEqual(state_of(parts), ([2, 1], [(0, 2)], [], 1))

    def test_an_error_is_not_a_split_that_could_be_taken_back(self):
        parts = self.split_parts()
        self.raised(NoPart, parts.split, 0)
        self.raised(InvalidPlace, parts.split, -1)
        parts.undo()
        self.assertEqual(state_of(parts), ([1, 2, 3, 5, 4], [(0, 2), (3, 2)], [2], 1))


class Lists(unittest.TestCase):
    def test_the_given_list_stays_and_is_copied(self):
        values = [2, 3, 1]
        parts = Parts(values)
        parts.split(0)
        self.assertEqual(values, [2, 3, 1])
        values.clear()
        self.assertEqual(parts.row, [1, 2, 3])
        parts.undo()
        self.assertEqual(state_of(parts), ([2, 3, 1], [(0, 3)], [], 1))

    def test_lists_that_are_read_are_new(self):
        for splits in range(3):
            parts = Parts([2, 3, 1])
            for _ in range(splits):
                parts.split(parts.waiting[0][0])
            before = copy.deepcopy(state_of(parts))
            for name in ("row", "waiting", "done"):
                first, second = getattr(parts, name), getattr(parts, name)
                self.assertIs(type(first), list)
                self.assertIsNot(first, second)
                first.append((9, 9))
                first.reverse()
                self.assertEqual(state_of(parts), before)

    def test_lists_that_were_read_stay(self):
        parts = Parts([2, 3, 1])
        state = state_of(parts)
        parts.split(0)
        later = state_of(parts)
        parts.undo()
        self.assertEqual(state, ([2, 3, 1], [(0, 3)], [], 1))
        self.assertEqual(later, ([1, 2, 3], [(0, 1), (2, 1)], [1], 0))

    def test_changes_of_a_list_that_was_read_before_a_split(self):
        parts = Parts([2, 3, 1])
        for name in ("row", "waiting", "done"):
            getattr(parts, name).clear()
        parts.split(0)
        for name in ("row", "waiting", "done"):
            getattr(parts, name).clear()
        parts.undo()
        self.assertEqual(state_of(parts), ([2, 3, 1], [(0, 3)], [], 1))

    def test_kinds_of_things(self):
        parts = Parts([2, 3, 1])
        place = parts.split(0)
        self.assertEqual([type(pair) for pair in parts.waiting], [tuple, tuple])
        self.assertIs(type(place), int)
        self.assertIs(type(parts.needed), int)


class Names(unittest.TestCase):
    def test_all_is_defined_in_the_class_itself(self):
        self.assertEqual(Parts.__module__, kinds.__name__)
        for name in ("row", "waiting", "done", "needed"):
            self.assertIsInstance(vars(Parts)[name], property)
        for name in ("split", "undo"):
            self.assertTrue(inspect.isfunction(vars(Parts)[name]))

    def test_parameters(self):
        self.assertEqual(str(inspect.signature(Parts)), "(values)")
        self.assertEqual(str(inspect.signature(Parts.split)), "(self, place)")
        self.assertEqual(str(inspect.signature(Parts.undo)), "(self)")
        parts = Parts(values=[2, 1])
        self.assertEqual(parts.split(place=0), 1)


if __name__ == "__main__":
    unittest.main()
