"""Arguments: their names, their checks and the order of these, and that they stay as they were."""

import copy
import inspect
import unittest

from halfquick.alike import (
    are_alike, at_end, at_rest, in_front, least_plan, numbers_sorted, one_after_other, only_other, parting_list,
    row_list, sorts_all, stops, unsorted_list,
)
from halfquick.counts import count_by_splits, count_inputs, count_sorted, count_staying, cuts, each_input
from halfquick.errors import (
    InvalidNumber, InvalidPasses, InvalidPlace, InvalidPlan, InvalidSteps, InvalidText, InvalidValues, NotOnePlan,
    TooMany,
)
from halfquick.plans import carried_out, left_open, lost, needed_pivots, pivots, strict, word_of
from halfquick.sides import count_by_passes, left_levels, levels, passes_needed, records_ahead, right_passes_needed
from halfquick.text import format_plan, format_values, parse_plan, parse_values

FILES = {
    "plans": [carried_out, strict, lost, word_of, pivots, left_open, needed_pivots],
    "counts": [cuts, count_inputs, each_input, count_sorted, count_staying, count_by_splits],
    "alike": [
        stops, row_list, sorts_all, unsorted_list, only_other, are_alike, parting_list, least_plan, one_after_other,
        in_front, at_end, at_rest, numbers_sorted,
    ],
    "sides": [records_ahead, passes_needed, right_passes_needed, count_by_passes, levels, left_levels],
    "text": [format_plan, parse_plan, format_values, parse_values],
}
SIGNATURES = {
    carried_out: "(plan, values, *, passes=1)",
    strict: "(plan, values)",
    lost: "(plan, values)",
    word_of: "(values, place)",
    pivots: "(plan, values)",
    left_open: "(plan, values)",
    needed_pivots: "(values)",
    cuts: "(values)",
    count_inputs: "(plan, values)",
    each_input: "(plan, values)",
    count_sorted: "(plan, size)",
    count_staying: "(plan, size)",
    count_by_splits: "(size, number)",
    stops: "(plan, steps)",
    row_list: "(steps)",
    sorts_all: "(plan)",
    unsorted_list: "(plan)",
    only_other: "(plan, other)",
    are_alike: "(plan, other)",
    parting_list: "(plan, other)",
    least_plan: "(plan)",
    one_after_other: "(plan, other)",
    in_front: "(plan)",
    at_end: "(plan)",
    at_rest: "(plan)",
    numbers_sorted: "(plan)",
    records_ahead: "(values, place)",
    passes_needed: "(plan, values)",
    right_passes_needed: "(values)",
    count_by_passes: "(size, *, passes=1)",
    levels: "(number)",
    left_levels: "(number)",
    format_plan: "(plan)",
    parse_plan: "(text)",
    format_values: "(values)",
    parse_values: "(text)",
}
GOOD = {
    "plan": [(0, None)], "values": [2, 1, 3], "passes": 2, "place": 1, "size": 3, "number": 1,
    "other": [(1, None), (0, 1)], "steps": "lr", "text": "0 0",
}
OTHER_KINDS = [None, True, False, 1.0, "text", "", b"ab", (), (1, 2), {}, {0: 1}, {1, 2}, object(), range(2), int]
NO_WHOLE_NUMBERS = [True, False, None, 0.0, 1.0, "1", b"1", [], [1], (), (1,), {}, object(), int, 1j]

NO_PLANS = [(thing, None) for thing in OTHER_KINDS + [0, 12]]
NO_PLANS += [
    ([(0, 0)] * 13, None),
    ([5] * 13, None),
    ([5], 0),
    ([None], 0),
    ([True], 0),
    (["ab"], 0),
    ([[0, 0]], 0),
    ([()], 0),
    ([(0,)], 0),
    ([(0, 0, 0)], 0),
    ([(0, 1)], 0),
    ([(1, 0)], 0),
    ([(-1, None)], 0),
    ([(None, -1)], 0),
    ([(False, None)], 0),
    ([(None, False)], 0),
    ([(0.0, 0)], 0),
    ([("0", "0")], 0),
    ([(None, [])], 0),
    ([(0, 0), (0, 10 ** 5000)], 1),
    ([(1, 0), (True, None)], 1),
    ([(1, 0), (3, None), 7], 1),
    ([(0, 0)] * 11 + [(12, 0)], 11),
    ([(0, 0)] * 11 + [(0, 12)], 11),
]
NO_VALUES = [(thing, None) for thing in OTHER_KINDS + [0, 60]]
NO_VALUES += [
    ([0] * 61, None),
    ([None] * 61, None),
    ([True], 0),
    ([False, 1], 0),
    ([1, True, None], 1),
    ([1, 2, "3", None], 2),
    ([1.0], 0),
    ([[1]], 0),
    ([0] * 59 + [None], 59),
]


def passing(function):
    """The names of the parameters of a function."""
    return list(inspect.signature(function).parameters)


def called(function, **changes):
    """Call a function with good arguments, but for the changed ones, and ask a generator for its values."""
    arguments = {name: changes.get(name, GOOD[name]) for name in passing(function)}
    result = function(**arguments)
    return list(result) if function is each_input else result


class Names(unittest.TestCase):
    def test_each_function_takes_the_listed_parameters(self):
        for function, signature in SIGNATURES.items():
            self.assertEqual(str(inspect.signature(function)), signature, function.__name__)

    def test_each_function_is_defined_in_its_file(self):
        self.assertEqual(set(SIGNATURES), {function for functions in FILES.values() for function in functions})
        for name, functions in FILES.items():
            for function in functions:
                self.assertEqual(function.__module__, "halfquick." + name)

    def test_parameters_may_be_passed_by_name_or_position(self):
        for function in SIGNATURES:
            by_position = [GOOD[name] for name in passing(function) if name != "passes"]
            result = function(*by_position)
            by_name = function(**{name: GOOD[name] for name in passing(function) if name != "passes"})
            if function is each_input:
                result, by_name = list(result), list(by_name)
            self.assertEqual(result, by_name, function.__name__)

    def test_passes_is_passed_by_name_only(self):
        with self.assertRaises(TypeError):
            carried_out([(0, 0)], [1], 1)
        with self.assertRaises(TypeError):
            count_by_passes(1, 1)


class Errors(unittest.TestCase):
    def raised(self, kind, function, **changes):
        with self.assertRaises(kind) as caught:
            called(function, **changes)
        self.assertIs(type(caught.exception), kind)
        return caught.exception

    def taking(self, name):
        functions = [function for function in SIGNATURES if name in passing(function)]
        self.assertTrue(functions)
        return functions

    def test_plans(self):
        for function in self.taking("plan"):
            for plan, place in NO_PLANS:
                with self.subTest(function=function.__name__, plan=str(type(plan)), place=place):
                    found = self.raised(InvalidPlan, function, plan=plan).place
                    self.assertEqual((type(found), found), (type(place), place))

    def test_values(self):
        for function in self.taking("values"):
            for values, index in NO_VALUES:
                with self.subTest(function=function.__name__, values=values):
                    found = self.raised(InvalidValues, function, values=values).index
                    self.assertEqual((type(found), found), (type(index), index))

    def test_others(self):
        for function in self.taking("other"):
            for other, place in NO_PLANS:
                with self.subTest(function=function.__name__, other=str(type(other)), place=place):
                    found = self.raised(InvalidPlan, function, other=other).place
                    self.assertEqual((type(found), found), (type(place), place))

    def test_passes(self):
        for function in self.taking("passes"):
            for passes in NO_WHOLE_NUMBERS + [-1, 61, 10 ** 20, -10 ** 5000]:
                self.assertIs(self.raised(InvalidPasses, function, passes=passes).passes, passes)

    def test_places(self):
        for function in self.taking("place"):
            for place in NO_WHOLE_NUMBERS + [-1, 3, 4, 10 ** 5000]:
                self.assertIs(self.raised(InvalidPlace, function, place=place).place, place)
            self.assertEqual(self.raised(InvalidPlace, function, values=[], place=0).place, 0)

    def test_steps(self):
        wrong = [thing for thing in OTHER_KINDS + [0, 1, ["l"], ("l", "r"), b"lr"] if thing != ""]
        wrong += ["x", "L", "R", "lrx", "xlr", "l r", " ", "l\n", "\nl", "l" * 61, "r" * 61, "lr" * 500, "l" * 59 + "L"]
        for function in self.taking("steps"):
            for steps in wrong:
                self.assertIs(self.raised(InvalidSteps, function, steps=steps).steps, steps)
            for steps in ("", "l", "r", "l" * 60, "rl" * 30):
                called(function, steps=steps)

    def test_texts(self):
        for function in self.taking("text"):
            for text in [thing for thing in OTHER_KINDS if not isinstance(thing, str)]:
                self.assertIsNone(self.raised(InvalidText, function, text=text).line)

    def test_sizes(self):
        for function, most in [(count_sorted, 60), (count_staying, 60), (count_by_passes, 60), (count_by_splits, 20)]:
            for size in NO_WHOLE_NUMBERS + [-1, most + 1, 10 ** 5000]:
                self.assertIs(self.raised(InvalidNumber, function, size=size).number, size)
            called(function, size=0)
            called(function, size=most)

    def test_numbers(self):
        for function, most in [(count_by_splits, 20), (levels, 12), (left_levels, 12)]:
            for number in NO_WHOLE_NUMBERS + [-1, most + 1, 10 ** 5000]:
                self.assertIs(self.raised(InvalidNumber, function, number=number).number, number)
        self.assertEqual(called(count_by_splits, number=0), 1)
        self.assertEqual(called(count_by_splits, number=20), 0)

    def test_the_bounds_themselves_are_no_errors(self):
        for function in self.taking("plan"):
            called(function, plan=[])
            called(function, plan=[(None, 11)] * 12)
        for function in self.taking("other"):
            called(function, other=[])
            called(function, other=[(None, 11)] * 12)
        for function in self.taking("values"):
            called(function, values=[1] * 60, place=59)
        self.assertEqual(called(carried_out, passes=0), [2, 1, 3])
        self.assertEqual(called(carried_out, passes=60), [1, 2, 3])

    def test_errors_come_in_the_order_of_the_parameters(self):
        bad = {
            "plan": [7], "values": [None], "passes": 61, "place": True, "size": -1, "number": 21, "other": [(0, 0), 7],
            "steps": "x", "text": 0,
        }
        kinds = {
            "plan": InvalidPlan, "values": InvalidValues, "passes": InvalidPasses, "place": InvalidPlace,
            "size": InvalidNumber, "number": InvalidNumber, "other": InvalidPlan, "steps": InvalidSteps,
            "text": InvalidText,
        }
        for function in SIGNATURES:
            names = passing(function)
            for first, name in enumerate(names):
                changes = {later: bad[later] for later in names[first:]}
                error = self.raised(kinds[name], function, **changes)
                if name in ("size", "number", "passes", "steps"):
                    self.assertEqual(list(vars(error).values()), [bad[name]])
                if kinds[name] is InvalidPlan:
                    self.assertEqual(error.place, 0 if name == "plan" else 1)

    def test_a_plan_is_checked_completely_before_the_values(self):
        for function in (carried_out, count_inputs, each_input):
            self.assertEqual(self.raised(InvalidPlan, function, plan=[(0, 0), (0, 2)], values=None).place, 1)
        for function in self.taking("other"):
            self.assertEqual(self.raised(InvalidPlan, function, plan=[(0, 0), (0, 2)], other=None).place, 1)
            self.assertIsNone(self.raised(InvalidPlan, function, plan=None, other=[7]).place)

    def test_too_many_comes_after_all_others(self):
        sorted_list = list(range(60))
        self.raised(InvalidPlan, each_input, plan=[(1, 0)], values=sorted_list)
        self.raised(InvalidValues, each_input, plan=[(0, 0)], values=sorted_list + [60])
        self.raised(TooMany, each_input, plan=[(0, 0)], values=sorted_list)
        twelve = [(place, None) for place in range(1, 12)] + [(None, None)]
        self.raised(InvalidPlan, one_after_other, plan=twelve, other=twelve[:-1])
        self.raised(InvalidPlan, one_after_other, plan=twelve[:-1], other=twelve)
        self.raised(NotOnePlan, one_after_other, plan=twelve, other=[(None, 1), (None, None)])
        self.raised(TooMany, one_after_other, plan=twelve, other=twelve)

    def test_errors_of_the_generator_wait_for_its_first_value(self):
        for plan, values, kind in [
            (None, [], InvalidPlan), ([], None, InvalidValues), ([(0, 0)], list(range(9)), TooMany),
        ]:
            generator = each_input(plan, values)
            with self.assertRaises(kind):
                next(generator)


class Lists(unittest.TestCase):
    def test_arguments_stay_as_they_were(self):
        for function in SIGNATURES:
            for plan in ([], [(0, None)], [(None, 1), (0, 0)]):
                for values in ([], [5], [3, 1, 2, 3, 1]):
                    other = [(1, None), (None, 0)]
                    kept = copy.deepcopy((plan, values, other))
                    if values or "place" not in passing(function):
                        called(function, plan=plan, values=values, place=0, other=other)
                    self.assertEqual((plan, values, other), kept)

    def test_equal_calls_return_equal_things(self):
        for function in SIGNATURES:
            self.assertEqual(called(function), called(function))

    def test_lists_that_tell_of_plans_are_new(self):
        for function in (unsorted_list, only_other, parting_list, least_plan, one_after_other, row_list):
            for plan in ([], [(0, None)], [(None, 0)], [(0, 0)], [(1, 1), (None, None)]):
                for other in ([], [(0, None)], [(None, 0)]):
                    given = copy.deepcopy((plan, other))
                    first = called(function, plan=plan, other=other)
                    kept = copy.deepcopy(first)
                    if first is not None:
                        self.assertIs(type(first), list)
                        first.append("mark")
                        first.reverse()
                    self.assertEqual((plan, other), given)
                    self.assertEqual(called(function, plan=plan, other=other), kept)

    def test_lists_of_levels_are_new(self):
        for function in (levels, left_levels):
            for number in range(13):
                first = function(number)
                kept = list(first)
                first.append("mark")
                self.assertEqual(function(number), kept)

    def test_returned_lists_are_new(self):
        for function in (carried_out, strict, lost, pivots, left_open, needed_pivots, cuts):
            for plan in ([], [(None, None)], [(0, 0)]):
                for given in ([], [5], [1, 2], [3, 1, 2]):
                    for passes in (0, 1, 2):
                        values = list(given)
                        first = called(function, plan=plan, values=values, passes=passes)
                        kept = list(first)
                        self.assertIsNot(first, values)
                        first.append("mark")
                        self.assertEqual(values, given)
                        self.assertEqual(called(function, plan=plan, values=values, passes=passes), kept)

    def test_yielded_lists_are_new(self):
        for plan in ([], [(None, None)], [(0, None)], [(0, 0)], [(1, 1), (None, None)]):
            for given in ([], [5], [1, 2, 3], [1, 1, 2, 2]):
                values = list(given)
                expected = copy.deepcopy(list(each_input(plan, values)))
                kept, found = [], []
                for row in each_input(plan, values):
                    found.append(list(row))
                    kept.append(row)
                    row.clear()
                self.assertEqual(found, expected)
                self.assertEqual(values, given)
                self.assertEqual(len({id(row) for row in kept} | {id(values)}), len(kept) + 1)

    def test_kinds_of_results(self):
        self.assertEqual([type(pair) for pair in left_open([], [2, 1, 0])], [tuple, tuple, tuple])
        self.assertIs(type(word_of([2, 1], 0)), str)
        for function in (count_inputs, count_sorted, count_staying, count_by_splits, count_by_passes, in_front, at_end,
                         numbers_sorted, records_ahead, passes_needed, right_passes_needed):
            self.assertIs(type(called(function)), int)
        for function in (stops, sorts_all, are_alike, at_rest):
            for plan in ([], [(0, 0)], [(0, None)], [(None, 0)]):
                self.assertIn(called(function, plan=plan), (True, False))
                self.assertIs(type(called(function, plan=plan)), bool)
        for function in (least_plan, one_after_other, levels, left_levels):
            self.assertEqual([type(pair) for pair in called(function)], [tuple] * len(called(function)))
        self.assertTrue(inspect.isgenerator(each_input([], [])))


if __name__ == "__main__":
    unittest.main()
