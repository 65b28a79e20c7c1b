"""What the tests compare with: the sorts as the document tells them, and small plans and lists to go through.

Nothing here uses the package, and nothing here is clever: lists are sorted in fact, and orders are tried one by one.
"""

from functools import cache
from itertools import permutations, product

WHOLE = [(0, 0)]
LEFT_ONLY = [(0, None)]
RIGHT_ONLY = [(None, 0)]
ONCE = [(None, None)]


def plans_of(places):
    """All plans with so many places."""
    entries = [None, *range(places)]
    steps = list(product(entries, repeat=2))
    return [list(plan) for plan in product(steps, repeat=places)]


TWELVE_LEVELS = [(place + 1, place + 1) for place in range(11)] + [(None, None)]
TWELVE_IN_A_RING = [((place + 5) % 12, (place + 1) % 12) for place in range(12)]
LARGER_PLANS = [
    [(1, 2), (None, 0), (0, None)],
    [(2, 1), (1, 2), (0, 0)],
    [(1, 1), (2, 2), (None, None)],
    [(0, 1), (0, 2), (0, None)],
    [(1, 0), (2, 1), (None, 2)],
    [(1, None), (2, None), (None, None)],
    [(None, 1), (None, 2), (None, 3), (0, None)],
    [(3, 1), (0, 2), (1, 3), (None, 0)],
    TWELVE_LEVELS,
    TWELVE_IN_A_RING,
]
SMALL_PLANS = plans_of(0) + plans_of(1) + plans_of(2)
PLANS = SMALL_PLANS + LARGER_PLANS
# Orders of this size tell of two small plans all that their rows do.
ENOUGH = 6


def lists_over(numbers, most):
    """All lists of at most so many values over a few numbers."""
    return [list(row) for length in range(most + 1) for row in product(range(numbers), repeat=length)]


def orders(size):
    """All orders of the numbers from 0 on."""
    return [list(row) for row in permutations(range(size))]


def passed(plan, values):
    """What one pass of a plan leaves of a list."""
    return Pass(plan, values).result


@cache
def outcomes_of(pairs, size):
    return [passed(list(pairs), row) for row in orders(size)]


def outcomes(plan, size):
    """What a plan leaves of each order of the numbers from 0 on, in the order of `orders`."""
    return outcomes_of(tuple(plan), size)


def sorted_orders(plan, size):
    """Whether each order of the numbers from 0 on comes out sorted, in the order of `orders`."""
    return [row == list(range(size)) for row in outcomes(plan, size)]


def first_of(plan):
    return 0 if plan else None


class Pass:
    """One pass over a list whose values are numbered, so that equal ones can be told apart."""

    def __init__(self, plan, values, strict=False):
        self.plan = plan
        self.strict = strict
        self.pivots = []
        self.lost = []
        self.words = {}
        numbered = [(value, place) for place, value in enumerate(values)]
        self.pairs = self.carry_out(first_of(plan), numbered, "")
        self.result = [value for value, _ in self.pairs]
        self.order = [place for _, place in self.pairs]
        self.pivots.sort()
        self.lost.sort()

    def carry_out(self, entry, pairs, word):
        if entry is None or len(pairs) == 0:
            return pairs
        pivot = pairs[0]
        self.pivots.append(pivot[1])
        self.words[pivot[1]] = word
        lower = []
        upper = []
        for pair in pairs[1:]:
            if pair[0] < pivot[0]:
                lower.append(pair)
            elif self.strict and pair[0] == pivot[0]:
                self.lost.append(pair[1])
            else:
                upper.append(pair)
        left, right = self.plan[entry]
        return self.carry_out(left, lower, word + "l") + [pivot] + self.carry_out(right, upper, word + "r")

    def leaves_open(self):
        """The pairs of places of a greater value before a smaller one that are still so afterwards."""
        at = {place: position for position, place in enumerate(self.order)}
        value_at = {place: value for value, place in self.pairs}
        places = sorted(at)
        return [
            (first, second) for first in places for second in places
            if first < second and value_at[first] > value_at[second] and at[first] < at[second]
        ]


def stops_from(plan, entry, steps):
    """Whether a row of steps that begins at an entry stops, and no shorter beginning of it."""
    for step in steps:
        if entry is None:
            return False
        entry = plan[entry]["lr".index(step)]
    return entry is None


def stops(plan, steps):
    return stops_from(plan, first_of(plan), steps)


def stopping_rows(plan, length):
    return [row for row in map("".join, product("lr", repeat=length)) if stops(plan, row)]


def beginning_stops(plan, row):
    """Whether a row of steps or some shorter beginning of it stops."""
    return any(stops(plan, row[:length]) for length in range(len(row) + 1))


def shortest_stopping_rows(plan):
    """The shortest rows of steps that stop; none, if no row does."""
    for length in range(len(plan) + 1):
        rows = stopping_rows(plan, length)
        if rows:
            return rows
    return []


def right_steps(plan):
    """The number of steps r after which the row of them stops, or None."""
    for length in range(len(plan) + 1):
        if stops(plan, "r" * length):
            return length
    return None


def list_of_row(row):
    left = list(range(len(row) + 2))
    found = [left.pop(0) if step == "r" else left.pop() for step in row]
    return found + left[::-1]


def mirrored(plan, places):
    """A plan with the two entries of some of its places exchanged."""
    return [(right, left) if place in places else (left, right) for place, (left, right) in enumerate(plan)]


def falling_number(values, place):
    """How many falling records the greater values before a place have."""
    least = None
    number = 0
    for value in values[:place]:
        if value > values[place] and (least is None or value < least):
            least = value
            number += 1
    return number


def passes_until_at_rest(plan, values):
    """The number of passes after which one more changes nothing."""
    passes = 0
    row = list(values)
    while passed(plan, row) != row:
        row = passed(plan, row)
        passes += 1
    return passes


def pieces_by_hand(values, split, places=None):
    """The pieces of a list if the values at some places were pivots: for each its places, and whether it waits.

    The places are those of the list that was given, so that equal values can be told apart.
    """
    if places is None:
        places = list(range(len(values)))
    if not places:
        return []
    if places[0] not in split:
        return [(places, True)]
    pivot = values[places[0]]
    lower = [place for place in places[1:] if values[place] < pivot]
    upper = [place for place in places[1:] if not values[place] < pivot]
    return [*pieces_by_hand(values, split, lower), (places[:1], False), *pieces_by_hand(values, split, upper)]


def without_doublets(values):
    return [value for place, value in enumerate(values) if value not in values[:place]]
