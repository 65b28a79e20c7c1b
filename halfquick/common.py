"""What several modules need: the checks of arguments, where rows of steps stop, and how many orders come out sorted."""

from math import comb

from halfquick.errors import InvalidNumber, InvalidPasses, InvalidPlace, InvalidPlan, InvalidValues

MOST_PLACES = 12
MOST_VALUES = 60
MOST_PASSES = 60
MOST_SIZE = 60


def is_whole(thing):
    """Whether a thing is a whole number: True and False are none, though they are integers to Python."""
    return isinstance(thing, int) and not isinstance(thing, bool)


def is_from_0_to(thing, limit):
    """Whether a thing is a whole number from 0 to a limit."""
    return is_whole(thing) and 0 <= thing <= limit


def is_entry(thing, places):
    """Whether a thing may be an entry of a plan with so many places."""
    return thing is None or is_from_0_to(thing, places - 1)


def is_pair_of_entries(thing, places):
    """Whether a thing may stand in a plan with so many places."""
    if not isinstance(thing, tuple) or len(thing) != 2:
        return False
    left, right = thing
    return is_entry(left, places) and is_entry(right, places)


def check_plan(plan):
    """Raise InvalidPlan if this is not a plan."""
    if not isinstance(plan, list) or len(plan) > MOST_PLACES:
        raise InvalidPlan(None)
    for place, thing in enumerate(plan):
        if not is_pair_of_entries(thing, len(plan)):
            raise InvalidPlan(place)


def check_values(values):
    """Raise InvalidValues if this is not a list of values."""
    if not isinstance(values, list) or len(values) > MOST_VALUES:
        raise InvalidValues(None)
    for index, thing in enumerate(values):
        if not is_whole(thing):
            raise InvalidValues(index)


def check_passes(passes):
    """Raise InvalidPasses if this is not a number of passes."""
    if not is_from_0_to(passes, MOST_PASSES):
        raise InvalidPasses(passes)


def check_place(place, values):
    """Raise InvalidPlace if this is not a place of the list."""
    if not is_from_0_to(place, len(values) - 1):
        raise InvalidPlace(place)


def check_number(number, limit):
    """Raise InvalidNumber if this is not a whole number from 0 to a limit."""
    if not is_from_0_to(number, limit):
        raise InvalidNumber(number)


def first_entry(plan):
    """What rows of steps begin at, as if it were an entry: the empty row stops in the plan without places."""
    return 0 if plan else None


def steps_until_stop(plan, steps):
    """The number of steps of that beginning of a row that stops in a plan, or None if none does."""
    entry = first_entry(plan)
    for taken, step in enumerate(steps):
        if entry is None:
            return taken
        left, right = plan[entry]
        entry = left if step == "l" else right
    return len(steps) if entry is None else None


def right_steps(plan):
    """The number of steps r after which the row of them stops, or None if no such row does."""
    # A longer row of steps r comes to no place that this one has not come to.
    return steps_until_stop(plan, "r" * len(plan))


def number_of_sorted_orders(plan, size):
    """The number of orders of so many different values that come out sorted, also by a plan of many places."""
    table = [[1] for _ in plan]
    for more in range(1, size + 1):
        for place, (left, right) in enumerate(plan):
            table[place].append(_sum_over_parts(table, left, right, more))
    return _sorted_orders(table, first_entry(plan), size)


def _sorted_orders(table, entry, size):
    return 1 if entry is None else table[entry][size]


def _sum_over_parts(table, left, right, size):
    """The number of orders that come out sorted by a place, from the numbers of all smaller sizes."""
    others = size - 1
    total = 0
    for lower in range(size):
        both = _sorted_orders(table, left, lower) * _sorted_orders(table, right, others - lower)
        total += comb(others, lower) * both
    return total
