"""How many passes are needed, and plans and passes that go on at one side."""

from halfquick.common import (
    MOST_PLACES, MOST_SIZE, check_number, check_passes, check_place, check_plan, check_values, number_of_sorted_orders,
)
from halfquick.plans import carried_out


def records_ahead(values, place):
    """The number of falling records that the greater values before the value at a place have."""
    check_values(values)
    check_place(place, values)
    return _records_ahead(values, place)


def passes_needed(plan, values):
    """The least number of passes after which a further one changes nothing."""
    check_plan(plan)
    check_values(values)
    row = values
    following = carried_out(plan, row)
    passes = 0
    while following != row:
        row = following
        following = carried_out(plan, row)
        passes += 1
    return passes


def right_passes_needed(values):
    """The least number of passes that go on at the right only by which a list comes out sorted."""
    check_values(values)
    return max([_records_ahead(values, place) for place in range(len(values))], default=0)


def count_by_passes(size, *, passes=1):
    """The number of orders that come out sorted by so many passes that go on at the right only."""
    check_number(size, MOST_SIZE)
    check_passes(passes)
    # So many passes do what one pass of this plan does, which may have more places than callers may pass.
    one_pass = [(following, place) for place, following in enumerate(_following_places(passes))]
    return number_of_sorted_orders(one_pass, size)


def levels(number):
    """The plan with so many places that goes on at both sides for so many levels."""
    check_number(number, MOST_PLACES)
    return [(following, following) for following in _following_places(number)]


def left_levels(number):
    """The plan with so many places that goes on at the left only for so many levels."""
    check_number(number, MOST_PLACES)
    return [(following, None) for following in _following_places(number)]


def _following_places(number):
    """For each of so many places the place behind it, and None for the last one."""
    return [place + 1 if place + 1 < number else None for place in range(number)]


def _records_ahead(values, place):
    own = values[place]
    least = None
    number = 0
    for value in values[:place]:
        if value > own and (least is None or value < least):
            least = value
            number += 1
    return number
