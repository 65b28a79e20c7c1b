"""Plans and lists as texts."""

from halfquick.common import MOST_PLACES, MOST_VALUES, check_plan, check_values
from halfquick.errors import InvalidText

NO_ENTRY = "-"
DIGITS = "0123456789"


def format_plan(plan):
    """The text of a plan."""
    check_plan(plan)
    return "\n".join([_word_of_entry(left) + " " + _word_of_entry(right) for left, right in plan])


def parse_plan(text):
    """The plan that a text writes."""
    if not isinstance(text, str):
        raise InvalidText(None)
    lines = text.split("\n") if text else []
    if len(lines) > MOST_PLACES:
        raise InvalidText(None)
    entries = {_word_of_entry(place): place for place in range(len(lines))}
    entries[NO_ENTRY] = None
    return [_pair_of(line, number, entries) for number, line in enumerate(lines)]


def format_values(values):
    """The text of a list."""
    check_values(values)
    return " ".join([str(value) for value in values])


def parse_values(text):
    """The list that a text writes."""
    if not isinstance(text, str) or "\n" in text:
        raise InvalidText(None)
    words = text.split(" ") if text else []
    if len(words) > MOST_VALUES or not all([_is_number(word) for word in words]):
        raise InvalidText(0)
    return [int(word) for word in words]


def _word_of_entry(entry):
    return NO_ENTRY if entry is None else str(entry)


def _pair_of(line, number, entries):
    """The pair of entries that a line writes, by the words of all entries that the plan may have."""
    words = line.split(" ")
    if len(words) != 2 or not all([word in entries for word in words]):
        raise InvalidText(number)
    left, right = words
    return entries[left], entries[right]


def _is_number(word):
    """Whether a word is a whole number without leading zeros, and below 0 if it has a sign."""
    digits = word.removeprefix("-")
    if not digits or not all([digit in DIGITS for digit in digits]):
        return False
    return digits[0] != "0" or word == "0"
