"""Arguments: their names, their checks and the order of these, and that they stay as they were."""

import copy
import inspect
import unittest

from halfquick import counts, plans
from halfquick.counts import count_by_splits, count_inputs, count_sorted, count_staying, cuts, each_input
from halfquick.errors import InvalidNumber, InvalidPasses, InvalidPlace, InvalidPlan, InvalidValues, TooMany
from halfquick.plans import carried_out, left_open, lost, needed_pivots, pivots, strict, word_of

SIGNATURES = {
    carried_out: "(plan, values, *, passes=1)",
    strict: "(plan, values)",
    lost: "(plan, values)",
    word_of: "(values, place)",
    pivots: "(plan, values)",
    left_open: "(plan, values)",
    needed_pivots: "(values)",
    cuts: "(values)",
    count_inputs: "(plan, values)",
    each_input: "(plan, values)",
    count_sorted: "(plan, size)",
    count_staying: "(plan, size)",
    count_by_splits: "(size, number)",
}
GOOD = {"plan": [(0, None)], "values": [2, 1, 3], "passes": 2, "place": 1, "size": 3, "number": 1}
OTHER_KINDS = [None, True, False, 1.0, "text", "", b"ab", (), (1, 2), {}, {0: 1}, {1, 2}, object(), range(2), int]
NO_WHOLE_NUMBERS = [True, False, None, 0.0, 1.0, "1", b"1", [], [1], (), (1,), {}, object(), int, 1j]

NO_PLANS = [(thing, None) for thing in OTHER_KINDS + [0, 12]]
NO_PLANS += [
    ([(0, 0)] * 13, None),
    ([5] * 13, None),
    ([5], 0),
    ([None], 0),
    ([True], 0),
    (["ab"], 0),
    ([[0, 0]], 0),
    ([()], 0),
    ([(0,)], 0),
    ([(0, 0, 0)], 0),
    ([(0, 1)], 0),
    ([(1, 0)], 0),
    ([(-1, None)], 0),
    ([(None, -1)], 0),
    ([(False, None)], 0),
    ([(None, False)], 0),
    ([(0.0, 0)], 0),
    ([("0", "0")], 0),
    ([(None, [])], 0),
    ([(0, 0), (0, 10 ** 5000)], 1),
    ([(1, 0), (True, None)], 1),
    ([(1, 0), (3, None), 7], 1),
    ([(0, 0)] * 11 + [(12, 0)], 11),
    ([(0, 0)] * 11 + [(0, 12)], 11),
]
NO_VALUES = [(thing, None) for thing in OTHER_KINDS + [0, 60]]
NO_VALUES += [
    ([0] * 61, None),
    ([None] * 61, None),
    ([True], 0),
    ([False, 1], 0),
    ([1, True, None], 1),
    ([1, 2, "3", None], 2),
    ([1.0], 0),
    ([[1]], 0),
    ([0] * 59 + [None], 59),
]


def passing(function):
    """The names of the parameters of a function."""
    return list(inspect.signature(function).parameters)


def called(function, **changes):
    """Call a function with good arguments, but for the changed ones, and ask a generator for its values."""
    arguments = {name: changes.get(name, GOOD[name]) for name in passing(function)}
    result = function(**arguments)
    return list(result) if function is each_input else result


class Names(unittest.TestCase):
    def test_each_function_takes_the_listed_parameters(self):
        for function, signature in SIGNATURES.items():
            self.assertEqual(str(inspect.signature(function)), signature, function.__name__)

    def test_each_function_is_defined_in_its_file(self):
        for function in SIGNATURES:
            home = plans if hasattr(plans, function.__name__) else counts
            self.assertEqual(function.__module__, home.__name__)

    def test_parameters_may_be_passed_by_name_or_position(self):
        for function in SIGNATURES:
            by_position = [GOOD[name] for name in passing(function) if name != "passes"]
            result = function(*by_position)
            by_name = function(**{name: GOOD[name] for name in passing(function) if name != "passes"})
            if function is each_input:
                result, by_name = list(result), list(by_name)
            self.assertEqual(result, by_name, function.__name__)

    def test_passes_is_passed_by_name_only(self):
        with self.assertRaises(TypeError):
            carried_out([(0, 0)], [1], 1)


class Errors(unittest.TestCase):
    def raised(self, kind, function, **changes):
        with self.assertRaises(kind) as caught:
            called(function, **changes)
        self.assertIs(type(caught.exception), kind)
        return caught.exception

    def taking(self, name):
        functions = [function for function in SIGNATURES if name in passing(function)]
        self.assertTrue(functions)
        return functions

    def test_plans(self):
        for function in self.taking("plan"):
            for plan, place in NO_PLANS:
                with self.subTest(function=function.__name__, plan=str(type(plan)), place=place):
                    found = self.raised(InvalidPlan, function, plan=plan).place
                    self.assertEqual((type(found), found), (type(place), place))

    def test_values(self):
        for function in self.taking("values"):
            for values, index in NO_VALUES:
                with self.subTest(function=function.__name__, values=values):
                    found = self.raised(InvalidValues, function, values=values).index
                    self.assertEqual((type(found), found), (type(index), index))

    def test_passes(self):
        for passes in NO_WHOLE_NUMBERS + [-1, 61, 10 ** 20, -10 ** 5000]:
            self.assertIs(self.raised(InvalidPasses, carried_out, passes=passes).passes, passes)

    def test_places(self):
        for place in NO_WHOLE_NUMBERS + [-1, 3, 4, 10 ** 5000]:
            self.assertIs(self.raised(InvalidPlace, word_of, place=place).place, place)
        self.assertEqual(self.raised(InvalidPlace, word_of, values=[], place=0).place, 0)

    def test_sizes(self):
        for function, most in [(count_sorted, 60), (count_staying, 60), (count_by_splits, 20)]:
            for size in NO_WHOLE_NUMBERS + [-1, most + 1, 10 ** 5000]:
                self.assertIs(self.raised(InvalidNumber, function, size=size).number, size)
            called(function, size=0)
            called(function, size=most)

    def test_numbers(self):
        for number in NO_WHOLE_NUMBERS + [-1, 21, 10 ** 5000]:
            self.assertIs(self.raised(InvalidNumber, count_by_splits, number=number).number, number)
        self.assertEqual(called(count_by_splits, number=0), 1)
        self.assertEqual(called(count_by_splits, number=20), 0)

    def test_the_bounds_themselves_are_no_errors(self):
        for function in self.taking("plan"):
            called(function, plan=[])
            called(function, plan=[(None, 11)] * 12)
        for function in self.taking("values"):
            called(function, values=[1] * 60, place=59)
        self.assertEqual(called(carried_out, passes=0), [2, 1, 3])
        self.assertEqual(called(carried_out, passes=60), [1, 2, 3])

    def test_errors_come_in_the_order_of_the_parameters(self):
        bad = {"plan": [7], "values": [None], "passes": 61, "place": True, "size": -1, "number": 21}
        kinds = {
            "plan": InvalidPlan, "values": InvalidValues, "passes": InvalidPasses,
            "place": InvalidPlace, "size": InvalidNumber, "number": InvalidNumber,
        }
        for function in SIGNATURES:
            names = passing(function)
            for first, name in enumerate(names):
                changes = {later: bad[later] for later in names[first:]}
                error = self.raised(kinds[name], function, **changes)
                if name in ("size", "number", "passes"):
                    self.assertEqual(list(vars(error).values()), [bad[name]])

    def test_a_plan_is_checked_completely_before_the_values(self):
        for function in (carried_out, count_inputs, each_input):
            self.assertEqual(self.raised(InvalidPlan, function, plan=[(0, 0), (0, 2)], values=None).place, 1)

    def test_too_many_comes_after_all_others(self):
        sorted_list = list(range(60))
        self.raised(InvalidPlan, each_input, plan=[(1, 0)], values=sorted_list)
        self.raised(InvalidValues, each_input, plan=[(0, 0)], values=sorted_list + [60])
        self.raised(TooMany, each_input, plan=[(0, 0)], values=sorted_list)

    def test_errors_of_the_generator_wait_for_its_first_value(self):
        for plan, values, kind in [
            (None, [], InvalidPlan), ([], None, InvalidValues), ([(0, 0)], list(range(9)), TooMany),
        ]:
            generator = each_input(plan, values)
            with self.assertRaises(kind):
                next(generator)


class Lists(unittest.TestCase):
    def test_arguments_stay_as_they_were(self):
        for function in SIGNATURES:
            for plan in ([], [(0, None)], [(None, 1), (0, 0)]):
                for values in ([], [5], [3, 1, 2, 3, 1]):
                    kept_plan, kept_values = copy.deepcopy(plan), list(values)
                    if values or function is not word_of:
                        called(function, plan=plan, values=values, place=0)
                    self.assertEqual((plan, values), (kept_plan, kept_values))

    def test_equal_calls_return_equal_things(self):
        for function in SIGNATURES:
            self.assertEqual(called(function), called(function))

    def test_returned_lists_are_new(self):
        for function in (carried_out, strict, lost, pivots, left_open, needed_pivots, cuts):
            for plan in ([], [(None, None)], [(0, 0)]):
                for given in ([], [5], [1, 2], [3, 1, 2]):
                    for passes in (0, 1, 2):
                        values = list(given)
                        first = called(function, plan=plan, values=values, passes=passes)
                        kept = list(first)
                        self.assertIsNot(first, values)
                        first.append("mark")
                        self.assertEqual(values, given)
                        self.assertEqual(called(function, plan=plan, values=values, passes=passes), kept)

    def test_yielded_lists_are_new(self):
        for plan in ([], [(None, None)], [(0, None)], [(0, 0)], [(1, 1), (None, None)]):
            for given in ([], [5], [1, 2, 3], [1, 1, 2, 2]):
                values = list(given)
                expected = copy.deepcopy(list(each_input(plan, values)))
                kept, found = [], []
                for row in each_input(plan, values):
                    found.append(list(row))
                    kept.append(row)
                    row.clear()
                self.assertEqual(found, expected)
                self.assertEqual(values, given)
                self.assertEqual(len({id(row) for row in kept} | {id(values)}), len(kept) + 1)

    def test_kinds_of_results(self):
        self.assertEqual([type(pair) for pair in left_open([], [2, 1, 0])], [tuple, tuple, tuple])
        self.assertIs(type(word_of([2, 1], 0)), str)
        for function in (count_inputs, count_sorted, count_staying, count_by_splits):
            self.assertIs(type(called(function)), int)
        self.assertTrue(inspect.isgenerator(each_input([], [])))


if __name__ == "__main__":
    unittest.main()
