"""Passes that are one pass (points 16 and 20)."""

import unittest
from itertools import product

from halfquick.alike import least_plan, one_after_other
from halfquick.errors import NotOnePlan, TooMany
from halfquick.plans import carried_out
from halfquick.sides import left_levels, levels
from tests.model import (
    ENOUGH, LARGER_PLANS, LEFT_ONLY, ONCE, RIGHT_ONLY, SMALL_PLANS, TWELVE_IN_A_RING, TWELVE_LEVELS, WHOLE,
    list_of_row, lists_over, orders, outcomes, passed, plans_of, stops_from,
)

SIZE = ENOUGH - 1
ORDERS = orders(SIZE)
NUMBER_OF = {tuple(row): number for number, row in enumerate(ORDERS)}
# Rows of so many steps tell the places of plans of four places apart.
ROWS = ["".join(row) for length in range(5) for row in product("lr", repeat=length)]
MANY_PLANS = SMALL_PLANS + LARGER_PLANS[:-2]


def right_passes(number):
    """The plan that does what so many passes at the right only do."""
    return [(place + 1, place) for place in range(number - 1)] + [(None, number - 1)] if number else []


def may_come_second(other):
    """Whether a plan of few places is as point 20 says, found by the rows that stop."""
    if not other or other[0][1] is None:
        return True
    behind = other[0][1]
    return all(stops_from(other, behind, row) == stops_from(other, other[behind][1], row) for row in ROWS)


SECOND_PLANS = [other for other in MANY_PLANS if may_come_second(other)]
NO_SECOND_PLANS = [other for other in MANY_PLANS if not may_come_second(other)]


def both(plan, other):
    """What a pass of a plan and then one of the other plan leave of each order."""
    behind = outcomes(other, SIZE)
    return [behind[NUMBER_OF[tuple(row)]] for row in outcomes(plan, SIZE)]


class OnePass(unittest.TestCase):
    def test_small_plans_on_all_orders(self):
        for other in SECOND_PLANS:
            for plan in SMALL_PLANS:
                joined = one_after_other(plan, other)
                self.assertEqual(outcomes(joined, SIZE), both(plan, other), (plan, other, joined))
                self.assertEqual(least_plan(joined), joined)

    def test_larger_plans_and_equal_values(self):
        lists = ORDERS[::3] + lists_over(3, 4)[::3] + lists_over(2, 5)[::3]
        for other in SECOND_PLANS[::7]:
            for plan in LARGER_PLANS[:-2]:
                joined = one_after_other(plan, other)
                self.assertEqual(least_plan(joined), joined)
                for values in lists:
                    self.assertEqual(carried_out(joined, values), passed(other, passed(plan, values)), (plan, other))

    def test_plan_without_places(self):
        for plan in [*MANY_PLANS, TWELVE_LEVELS, TWELVE_IN_A_RING]:
            self.assertEqual(one_after_other(plan, []), least_plan(plan))
        for other in SECOND_PLANS:
            self.assertEqual(one_after_other([], other), least_plan(other))

    def test_whole_quicksort(self):
        for plan in [*MANY_PLANS, TWELVE_LEVELS, TWELVE_IN_A_RING]:
            self.assertEqual(one_after_other(plan, WHOLE), [(0, 0)])
            self.assertEqual(one_after_other(plan, TWELVE_IN_A_RING), [(0, 0)])
        for other in SECOND_PLANS:
            self.assertEqual(one_after_other(WHOLE, other), [(0, 0)])

    def test_steps_l_alone_lead_to_the_first_place(self):
        for plan, other, joined in [
            (ONCE, RIGHT_ONLY, [(1, 1), (None, 1)]),
            (LEFT_ONLY, RIGHT_ONLY, [(0, 1), (None, 1)]),
            (RIGHT_ONLY, RIGHT_ONLY, [(1, 0), (None, 1)]),
            (RIGHT_ONLY, LEFT_ONLY, [(1, 2), (1, None), (None, 2)]),
            (ONCE, [(1, 2), (None, None), (None, 2)], [(1, 2), (3, 2), (None, 2), (None, None)]),
            (levels(2), ONCE, [(1, 2), (2, None), (None, None)]),
            (levels(2), [(None, 1), (1, 1)], [(1, 2), (3, 2), (2, 2), (None, 2)]),
        ]:
            self.assertEqual(one_after_other(plan, other), joined, (plan, other))

    def test_right_passes(self):
        for number in range(12):
            self.assertEqual(one_after_other(right_passes(number), RIGHT_ONLY), right_passes(number + 1))

    def test_single_partings(self):
        for number in range(12):
            self.assertEqual(one_after_other(left_levels(number), ONCE), left_levels(number + 1))
            self.assertEqual(one_after_other(left_levels(number), left_levels(12 - number)), left_levels(12))

    def test_left_only_is_at_rest(self):
        self.assertEqual(one_after_other(LEFT_ONLY, LEFT_ONLY), [(0, None)])

    def test_places_to_which_no_row_leads_do_not_count(self):
        plan = right_passes(6) + [(0, 1)] * 6
        self.assertEqual(one_after_other(plan, [(None, 2), (1, None), (None, 2)]), right_passes(7))


class NotOnePass(unittest.TestCase):
    def raises(self, plan, other):
        with self.assertRaises(NotOnePlan, msg=(plan, other)) as caught:
            one_after_other(plan, other)
        self.assertEqual(vars(caught.exception), {})

    def test_it_depends_on_the_second_plan_alone(self):
        for other in plans_of(3)[::17] + MANY_PLANS:
            for plan in ([], WHOLE, ONCE, RIGHT_ONLY, [(1, 0), (None, None)]):
                if may_come_second(other):
                    one_after_other(plan, other)
                else:
                    self.raises(plan, other)

    def test_exactly_those_behind_which_some_plan_is_no_one_pass(self):
        for other in SMALL_PLANS:
            always = all(does_what_a_plan_does(both(plan, other)) for plan in SMALL_PLANS)
            self.assertEqual(may_come_second(other), always, other)

    def test_edges(self):
        self.raises([], [(None, 1), (None, None)])
        self.raises([], levels(2))
        self.raises(WHOLE, levels(12))
        self.raises(ONCE, [(0, 1), (0, None)])
        self.raises(ONCE, [(None, 1), (None, 2), (None, 3), (0, None)])
        # The rows from the right entry are the same, though the place is another one.
        self.assertEqual(one_after_other(ONCE, [(None, 1), (None, 2), (None, 1)]), one_after_other(ONCE, RIGHT_ONLY))
        self.assertEqual(one_after_other(ONCE, levels(1)), left_levels(2))


def does_what_a_plan_does(results):
    """Whether what is left of all orders is what one pass of some plan leaves: the lists of rows tell of which one."""
    return all(with_these_rows(values, results, "") == result for values, result in zip(ORDERS, results))


def with_these_rows(values, results, row):
    if len(values) < 2 or not goes_on(results, row):
        return values
    lower = [value for value in values[1:] if value < values[0]]
    upper = [value for value in values[1:] if value > values[0]]
    return [*with_these_rows(lower, results, row + "l"), values[0], *with_these_rows(upper, results, row + "r")]


def goes_on(results, row):
    """Whether no beginning of a row stops: then of the list of the row the last pair is put in order.

    Greater values behind the list of the row, which make it as long as the orders are, do not change this.
    """
    values = list_of_row(row)
    result = results[NUMBER_OF[tuple(values + list(range(len(values), SIZE)))]]
    return result.index(values[-1]) < result.index(values[-2])


class TooManyPlaces(unittest.TestCase):
    def check(self, plan, other, number):
        with self.assertRaises(TooMany) as caught:
            one_after_other(plan, other)
        self.assertEqual(caught.exception.count, number)

    def test_the_number_is_told(self):
        self.check(right_passes(12), RIGHT_ONLY, 13)
        self.check(left_levels(12), ONCE, 13)
        self.check(left_levels(6), left_levels(7), 13)
        self.check(left_levels(12), left_levels(12), 24)

    def test_as_many_places_as_there_may_be(self):
        # Each place of the first plan is come to by steps l alone and by others, and all go on in another way.
        back_to_the_first = [(place + 1, 0) for place in range(11)] + [(None, 0)]
        self.check(back_to_the_first, left_levels(12), 36)

    def test_no_plan_comes_before_too_many(self):
        for other in NO_SECOND_PLANS:
            with self.assertRaises(NotOnePlan):
                one_after_other(left_levels(12), other)
        with self.assertRaises(NotOnePlan):
            one_after_other(right_passes(12), levels(12))


if __name__ == "__main__":
    unittest.main()
