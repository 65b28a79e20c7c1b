"""Which plans do the same, which ones sort more, and what holds for every list: all told by the rows that stop."""

from halfquick.common import MOST_PLACES, check_plan, first_entry, right_steps, steps_until_stop
from halfquick.errors import InvalidSteps, NotOnePlan, TooMany

MOST_STEPS = 60


def stops(plan, steps):
    """Whether a row of steps stops in a plan, and no shorter beginning of it."""
    check_plan(plan)
    _check_steps(steps)
    return steps_until_stop(plan, steps) == len(steps)


def row_list(steps):
    """The list of a row of steps."""
    _check_steps(steps)
    return _list_of(steps)


def sorts_all(plan):
    """Whether a plan sorts all lists."""
    return unsorted_list(plan) is None


def unsorted_list(plan):
    """The least of the shortest orders that a plan does not sort, or None if it sorts all lists."""
    # The whole quicksort sorts all lists.
    return only_other(plan, [(0, 0)])


def only_other(plan, other):
    """The least of the shortest orders that only the other plan sorts, or None if there is none."""
    check_plan(plan)
    check_plan(other)
    return _least_list(plan, other, _first_alone_stops)


def are_alike(plan, other):
    """Whether two plans do the same to every list."""
    return parting_list(plan, other) is None


def parting_list(plan, other):
    """The least of the shortest orders to which two plans do not do the same, or None if they are alike."""
    check_plan(plan)
    check_plan(other)
    return _least_list(plan, other, _one_alone_stops)


def least_plan(plan):
    """The plan with as few places as possible that is alike, numbered as rows of steps lead to its places."""
    check_plan(plan)
    return _least(plan)


def one_after_other(plan, other):
    """The least plan one pass of which does what a pass of a plan and then one of the other plan do."""
    check_plan(plan)
    check_plan(other)
    if not _can_be_joined(other):
        raise NotOnePlan("another pass would be needed")
    joined = _least(_joined(plan, other) if other else plan)
    if len(joined) > MOST_PLACES:
        raise TooMany(len(joined))
    return joined


def in_front(plan):
    """How many of the least values each pass puts in front, in order, or None if no row stops."""
    check_plan(plan)
    return _fewest_to_stop(plan, 0, 1)


def at_end(plan):
    """How many of the greatest values each pass puts at the end, in order, or None if no row stops."""
    check_plan(plan)
    return _fewest_to_stop(plan, 1, 0)


def at_rest(plan):
    """Whether a second pass changes nothing, whatever the list is."""
    # If no row stops, both are None.
    return in_front(plan) == right_steps(plan)


def numbers_sorted(plan):
    """The most different numbers such that all lists of them are sorted, or None if all lists are."""
    number = at_end(plan)
    return None if number is None else number + 1


def _check_steps(steps):
    if not isinstance(steps, str) or len(steps) > MOST_STEPS:
        raise InvalidSteps(steps)
    if not all([step in ("l", "r") for step in steps]):
        raise InvalidSteps(steps)


def _list_of(row):
    """The list of a row, which may have more steps than callers may pass."""
    least = 0
    greatest = len(row) + 1
    found = []
    for step in row:
        if step == "r":
            found.append(least)
            least += 1
        else:
            found.append(greatest)
            greatest -= 1
    return found + [greatest, least]


def _first_alone_stops(pair):
    entry, other_entry = pair
    return entry is None and other_entry is not None


def _one_alone_stops(pair):
    entry, other_entry = pair
    return (entry is None) != (other_entry is None)


def _least_list(plan, other, is_wanted):
    """The least list of the shortest rows that lead to a wanted pair of entries, or None if none does."""
    start = (first_entry(plan), first_entry(other))
    rows = {start: ""}
    queue = [start]
    while queue:
        pair = queue.pop(0)
        if is_wanted(pair):
            return _list_of(rows[pair])
        for step, following in _steps_from(plan, other, pair):
            if following not in rows:
                rows[following] = rows[pair] + step
                queue.append(following)
    return None


def _steps_from(plan, other, pair):
    """The pairs of entries to which the two steps lead, each with its step.

    The step r comes first: so the first row to a pair is the last one in the alphabet, whose list is the least. From
    a pair with None nothing is gone on with, because no longer row counts if a beginning stops in one of the plans.
    """
    entry, other_entry = pair
    if entry is None or other_entry is None:
        return []
    left, right = plan[entry]
    other_left, other_right = other[other_entry]
    return [("r", (right, other_right)), ("l", (left, other_left))]


def _least(plan):
    """The least plan, also of a plan of many places."""
    if not plan:
        return []
    kinds = _kinds(plan)
    reached = [kinds[0]]
    looked_at = 0
    while looked_at < len(reached):
        pair = plan[reached[looked_at]]
        for entry in pair:
            kind = _kind_of(kinds, entry)
            if kind is not None and kind not in reached:
                reached.append(kind)
        looked_at += 1
    numbers = {place: number for number, place in enumerate(reached)}
    return [_renumbered(plan[place], kinds, numbers) for place in reached]


def _kinds(plan):
    """For each place the first place from which the same rows stop."""
    kinds = [0 for _ in plan]
    # Each round tells rows of one step more apart, and rows of as many steps as there are places are enough.
    for _ in plan:
        pairs = [(_kind_of(kinds, left), _kind_of(kinds, right)) for left, right in plan]
        kinds = [pairs.index(pair) for pair in pairs]
    return kinds


def _kind_of(kinds, entry):
    return None if entry is None else kinds[entry]


def _renumbered(pair, kinds, numbers):
    left, right = [None if entry is None else numbers[kinds[entry]] for entry in pair]
    return left, right


def _can_be_joined(other):
    """Whether a pass of a plan behind a pass of any plan is always one pass of some plan."""
    if not other:
        return True
    behind = other[0][1]
    if behind is None:
        return True
    kinds = _kinds(other)
    return kinds[behind] == _kind_of(kinds, other[behind][1])


def _joined(plan, other):
    """A plan, perhaps of many places, that goes on as a plan does and, where that one stops, with the other one.

    The places of the plan stand in it twice: as they are come to by steps l alone, and otherwise.
    """
    many = len(plan)
    start = 2 * many
    behind = _shifted(other[0][1], start, None)
    by_left = [(_shifted(left, 0, start), _shifted(right, many, behind)) for left, right in plan]
    by_others = [(_shifted(left, many, behind), _shifted(right, many, behind)) for left, right in plan]
    last = [(_shifted(left, start, None), _shifted(right, start, None)) for left, right in other]
    return by_left + by_others + last


def _shifted(entry, by, instead):
    return instead if entry is None else entry + by


def _fewest_to_stop(plan, left_cost, right_cost):
    """The least cost of a row that stops, if steps l and r have such costs of 0 or 1, or None if no row stops."""
    # A row of the least cost needs no place twice, so it costs less than this.
    never = len(plan) + 1
    costs = [never for _ in plan]
    for _ in plan:
        costs = [
            min(never, left_cost + _cost_of(costs, left), right_cost + _cost_of(costs, right))
            for left, right in plan
        ]
    cost = _cost_of(costs, first_entry(plan))
    return None if cost == never else cost


def _cost_of(costs, entry):
    return 0 if entry is None else costs[entry]
