"""The examples of the document, as printed, and those of the README."""

import doctest
import unittest
from pathlib import Path

README = Path(__file__).resolve().parent.parent / "README.md"

PLANS = """
>>> from halfquick.plans import carried_out, left_open, lost, needed_pivots, pivots, strict, word_of
>>> carried_out([(0, None)], [3, 5, 2, 4, 1]), carried_out([(None, 0)], [3, 5, 2, 4, 1])
([1, 2, 3, 5, 4], [2, 1, 3, 4, 5])
>>> [word_of([3, 5, 2, 4, 1], place) for place in range(5)], pivots([(None, 0)], [3, 5, 2, 4, 1])
(['', 'r', 'l', 'rl', 'll'], [0, 1])
>>> left_open([(None, 0)], [3, 5, 2, 4, 1]), strict([(0, 0)], [2, 1, 2, 1]), lost([(0, 0)], [2, 1, 2, 1])
([(2, 4)], [1, 2], [2, 3])
>>> needed_pivots([1, 2, 0]), needed_pivots([0, 2, 1]), word_of([2, 2, 1], 1)
([0], [0, 1], 'r')
"""

COUNTS = """
>>> from halfquick.counts import count_by_splits, count_inputs, count_sorted, count_staying, cuts, each_input
>>> cuts([2, 1, 3, 4]), count_inputs([(None, 0)], [2, 1, 3, 4])
([2, 3], 4)
>>> list(each_input([(0, None)], [1, 2, 3]))
[[1, 2, 3], [2, 1, 3], [2, 3, 1], [3, 1, 2], [3, 2, 1]]
>>> [count_sorted([(0, None)], size) for size in range(6)], count_staying([(None, None)], 4)
([1, 1, 2, 5, 15, 52], 6)
>>> cuts([1, 2, 2]), [count_by_splits(3, number) for number in range(4)]
([0, 1], [1, 3, 2, 0])
"""

ALIKE = """
>>> from halfquick.alike import are_alike, at_rest, in_front, least_plan, numbers_sorted, one_after_other
>>> from halfquick.alike import only_other, parting_list, row_list, sorts_all, stops, unsorted_list
>>> stops([(0, None)], 'llr'), sorts_all([(0, 0)]), unsorted_list([(0, None)])
(True, True, [0, 2, 1])
>>> are_alike([(1, None), (0, None)], [(0, None)]), parting_list([(0, None)], [(None, 0)])
(True, [0, 2, 1])
>>> least_plan([(2, 1), (1, 2), (0, 0)]), one_after_other([(None, 0)], [(None, 0)])
([(0, 0)], [(1, 0), (None, 1)])
>>> row_list('rl'), only_other([(None, 0)], [(0, None)]), only_other([(0, 0)], [(0, None)])
([0, 3, 2, 1], [2, 1, 0], None)
>>> in_front([(0, None)]), at_rest([(0, None)]), numbers_sorted([(0, None)]), numbers_sorted([(None, 0)])
(1, True, 1, 2)
"""

SIDES = """
>>> from halfquick.sides import count_by_passes, left_levels, levels, passes_needed, records_ahead, right_passes_needed
>>> records_ahead([1, 5, 3, 2], 3), right_passes_needed([5, 3, 4, 1, 2])
(2, 2)
>>> passes_needed([(None, 0)], [5, 3, 4, 1, 2]), [count_by_passes(4, passes=number) for number in range(4)]
(2, [1, 15, 23, 24])
>>> levels(2), left_levels(2)
([(1, 1), (None, None)], [(1, None), (None, None)])
"""

TEXT = r"""
>>> from halfquick.text import format_plan, format_values, parse_plan
>>> format_plan([(1, None), (0, 1)]), parse_plan('1 -\n0 1')
('1 -\n0 1', [(1, None), (0, 1)])
>>> format_values([3, -1])
'3 -1'
"""


class Examples(unittest.TestCase):
    def check(self, text, examples):
        test = doctest.DocTestParser().get_doctest(text, {}, "document", None, 0)
        told = []
        result = doctest.DocTestRunner(verbose=False).run(test, out=told.append)
        self.assertEqual(result.attempted, examples)
        self.assertEqual(result.failed, 0, "".join(told))

    def test_plans(self):
        self.check(PLANS, 5)

    def test_counts(self):
        self.check(COUNTS, 5)

    def test_alike(self):
        self.check(ALIKE, 7)

    def test_sides(self):
        self.check(SIDES, 4)

    def test_text(self):
        self.check(TEXT, 3)

    def test_readme(self):
        self.check(README.read_text(), 17)


if __name__ == "__main__":
    unittest.main()
