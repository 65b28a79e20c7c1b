"""How many lists come out in some way, and from which lists a list comes."""

from itertools import combinations
from math import comb, factorial

from halfquick.common import (
    MOST_SIZE, check_number, check_plan, check_values, first_entry, number_of_sorted_orders, right_steps,
)
from halfquick.errors import TooMany

MOST_INPUTS = 5000
MOST_SPLIT_SIZE = 20


def cuts(values):
    """The places at which the whole list may have been parted, ascending."""
    check_values(values)
    return _cuts_of(values)


def count_inputs(plan, values):
    """The number of lists from which a list comes by a plan."""
    check_plan(plan)
    check_values(values)
    return Origins(plan, values).number_of_all()


def each_input(plan, values):
    """Yield the lists from which a list comes by a plan, in ascending order."""
    check_plan(plan)
    check_values(values)
    origins = Origins(plan, values)
    number = origins.number_of_all()
    if number > MOST_INPUTS:
        raise TooMany(number)
    for row in sorted(origins.all_rows()):
        yield row


def count_sorted(plan, size):
    """The number of orders of so many different values that come out sorted."""
    check_plan(plan)
    check_number(size, MOST_SIZE)
    return number_of_sorted_orders(plan, size)


def count_staying(plan, size):
    """The number of orders of so many different values that stay as they are."""
    check_plan(plan)
    check_number(size, MOST_SIZE)
    steps = right_steps(plan)
    if steps is None or size < steps:
        return 1
    return factorial(size - steps)


def count_by_splits(size, number):
    """The number of orders of so many different values with so many needed pivots."""
    check_number(size, MOST_SPLIT_SIZE)
    check_number(number, MOST_SPLIT_SIZE)
    table = [[1] + [0] * number]
    for more in range(1, size + 1):
        table.append([_orders_with_splits(table, more, splits) for splits in range(number + 1)])
    return table[size][number]


class Origins:
    """From which lists the stretches of one list come by the entries of one plan.

    A stretch is told by the place at which it begins and the place behind its last value.
    """

    def __init__(self, plan, values):
        self.plan = plan
        self.whole = values
        self.known_cuts = {}
        self.known_numbers = {}

    def number_of_all(self):
        """From how many lists the whole list comes by the plan."""
        return self.number_from(first_entry(self.plan), 0, len(self.whole))

    def all_rows(self):
        """The lists from which the whole list comes, in no special order."""
        return self.rows(first_entry(self.plan), 0, len(self.whole))

    def cuts_within(self, start, end):
        """The cuts of a stretch, as places of the whole list."""
        key = (start, end)
        if key not in self.known_cuts:
            self.known_cuts[key] = [start + cut for cut in _cuts_of(self.whole[start:end])]
        return self.known_cuts[key]

    def number_from(self, entry, start, end):
        """From how many lists a stretch comes by an entry."""
        if entry is None or start == end:
            return 1
        key = (entry, start, end)
        if key not in self.known_numbers:
            total = 0
            for cut in self.cuts_within(start, end):
                total += comb(end - start - 1, cut - start) * self.pairs_at(entry, start, cut, end)
            self.known_numbers[key] = total
        return self.known_numbers[key]

    def pairs_at(self, entry, start, cut, end):
        """From how many pairs of parts the two parts beside a cut come."""
        left, right = self.plan[entry]
        return self.number_from(left, start, cut) * self.number_from(right, cut + 1, end)

    def rows(self, entry, start, end):
        """The lists from which a stretch comes by an entry, in no special order."""
        if entry is None or start == end:
            return [self.whole[start:end]]
        found = []
        for cut in self.cuts_within(start, end):
            # Where one part comes from no list, the other one may come from far too many to be built.
            if self.pairs_at(entry, start, cut, end) > 0:
                found.extend(self.rows_at(entry, start, cut, end))
        return found

    def rows_at(self, entry, start, cut, end):
        """Those of the lists from which a stretch comes that begin with the value at a cut."""
        left, right = self.plan[entry]
        lower_rows = self.rows(left, start, cut)
        upper_rows = self.rows(right, cut + 1, end)
        pivot = self.whole[cut]
        return [[pivot] + row for lower in lower_rows for upper in upper_rows for row in _merged(lower, upper)]


def _cuts_of(row):
    """The places whose value is greater than all before it and not greater than any behind it."""
    return [
        place for place, value in enumerate(row)
        if max(row[:place], default=value - 1) < value == min(row[place:])
    ]


def _merged(lower, upper):
    """All lists in which the values of two lists stand, each list in its order."""
    found = []
    for places in combinations(range(len(lower) + len(upper)), len(lower)):
        row = list(upper)
        for place, value in zip(places, lower):
            row.insert(place, value)
        found.append(row)
    return found


def _orders_with_splits(table, size, splits):
    """The number of orders with so many needed pivots, from the numbers of all smaller sizes."""
    if splits == 0:
        return 1
    others = size - 1
    total = table[others][splits - 1] if splits >= 2 else 0
    for lower in range(1, size):
        pairs = [table[lower][k] * table[others - lower][splits - 1 - k] for k in range(splits)]
        total += comb(others, lower) * sum(pairs)
    return total
