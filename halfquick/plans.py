"""What a plan does to a list: what it leaves, its pivots, and the pairs that it does not put in order."""

from halfquick.common import check_passes, check_place, check_plan, check_values, first_entry, steps_until_stop


def carried_out(plan, values, *, passes=1):
    """What so many passes of a plan leave of a list."""
    check_plan(plan)
    check_values(values)
    check_passes(passes)
    row = list(values)
    for _ in range(passes):
        row = [row[place] for place in _places_left(plan, row, False)]
    return row


def strict(plan, values):
    """What a strict pass of a plan leaves of a list."""
    check_plan(plan)
    check_values(values)
    return [values[place] for place in _places_left(plan, values, True)]


def lost(plan, values):
    """The places of the values that get lost by a strict pass."""
    check_plan(plan)
    check_values(values)
    left = _places_left(plan, values, True)
    return [place for place in range(len(values)) if place not in left]


def word_of(values, place):
    """The row of steps by which the whole quicksort leads to the value at a place."""
    check_values(values)
    check_place(place, values)
    return _word(values, place)


def pivots(plan, values):
    """The places of the values that are pivots of a plan."""
    check_plan(plan)
    check_values(values)
    return _pivot_places(plan, values)


def left_open(plan, values):
    """The pairs of places whose greater value stands first and still does after a pass."""
    check_plan(plan)
    check_values(values)
    pivot_places = _pivot_places(plan, values)
    return [pair for pair in _falling_pairs(values) if _parting_place(values, pair) not in pivot_places]


def needed_pivots(values):
    """The places of the pivots without which a list does not come out sorted."""
    check_values(values)
    return needed_places(values)


def needed_places(values):
    """The same as needed_pivots, for what is known to be a list of values."""
    words = [_word(values, place) for place in range(len(values))]
    needed_words = [words[place] for place in _firsts_before_next_smaller(values)]
    return [place for place, word in enumerate(words) if _begins_one_of(word, needed_words)]


def _places_left(plan, values, is_strict):
    """The places of the values that a pass leaves, in the order in which it leaves them."""
    return _carry_out(plan, first_entry(plan), values, list(range(len(values))), is_strict)


def _carry_out(plan, entry, values, places, is_strict):
    """Carry out an entry on the part of a list that stands at some places.

    Places are moved instead of values, so that equal values can be told apart.
    """
    if entry is None or not places:
        return places
    first, *others = places
    pivot = values[first]
    lower = [place for place in others if values[place] < pivot]
    if is_strict:
        upper = [place for place in others if values[place] > pivot]
    else:
        upper = [place for place in others if values[place] >= pivot]
    left, right = plan[entry]
    done_lower = _carry_out(plan, left, values, lower, is_strict)
    return done_lower + [first] + _carry_out(plan, right, values, upper, is_strict)


def _word(values, place):
    """The word of a value, found by bounds that the values before it draw closer."""
    own = values[place]
    low = None
    high = None
    word = ""
    for value in values[:place]:
        if (low is not None and value < low) or (high is not None and value >= high):
            continue
        if own < value:
            high = value
            word = word + "l"
        else:
            low = value
            word = word + "r"
    return word


def _pivot_places(plan, values):
    return [place for place in range(len(values)) if steps_until_stop(plan, _word(values, place)) is None]


def _falling_pairs(values):
    """The pairs of places, ascending, of which the first one has the greater value."""
    many = len(values)
    return [
        (first, second) for first in range(many) for second in range(first + 1, many)
        if values[first] > values[second]
    ]


def _parting_place(values, pair):
    """The place of the one value that can put a falling pair in order, by being a pivot."""
    first, second = pair
    return min([place for place in range(first + 1) if values[second] < values[place] <= values[first]])


def _firsts_before_next_smaller(values):
    """The places of the first ones of equal values behind which the next smaller number stands."""
    numbers = sorted(set(values))
    found = []
    for smaller, number in zip(numbers, numbers[1:]):
        # The method `index` is not called, because a property runs this and errors store an attribute of that name.
        first = min([place for place, value in enumerate(values) if value == number])
        if smaller in values[first:]:
            found.append(first)
    return found


def _begins_one_of(beginning, words):
    return any([word.startswith(beginning) for word in words])
