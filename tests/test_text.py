"""Texts of plans and lists (point 25)."""

import unittest

from halfquick.errors import InvalidPlan, InvalidText, InvalidValues
from halfquick.text import format_plan, format_values, parse_plan, parse_values
from tests.model import LEFT_ONLY, ONCE, PLANS, TWELVE_LEVELS, WHOLE, lists_over, orders, plans_of

BIG = 10 ** 20 - 1
NO_TEXTS = [None, True, 0, 1.5, b"", b"0 0", [], ["0 0"], (), ("0", "0"), {}, object()]

# Each text with the number of its first line that is wrong.
WRONG_PLANS = [
    ("\n", 0),
    ("\n\n", 0),
    (" ", 0),
    ("-", 0),
    ("0", 0),
    ("--", 0),
    ("00", 0),
    ("0-", 0),
    ("0 0\n", 1),
    ("\n0 0", 0),
    ("0 0\n\n0 0", 1),
    ("- -\n- -\n", 2),
    ("0  0", 0),
    ("0 0 ", 0),
    (" 0 0", 0),
    ("0 ", 0),
    (" 0", 0),
    ("0 0 0", 0),
    ("- - -", 0),
    ("0,0", 0),
    ("0.0 0", 0),
    ("1 0", 0),
    ("0 1", 0),
    ("- 1", 0),
    ("1 -\n2 0", 1),
    ("1 -\n0 2", 1),
    ("2 0\n0 0", 0),
    ("-0 0", 0),
    ("0 -0", 0),
    ("-1 0", 0),
    ("+0 0", 0),
    ("0 +0", 0),
    ("00 0", 0),
    ("0 00", 0),
    ("01 0\n0 0", 0),
    ("0 0\n0 01", 1),
    ("-- 0", 0),
    ("0 --", 0),
    ("None None", 0),
    ("a b", 0),
    ("l r", 0),
    ("(0, 0)", 0),
    ("0 0x", 0),
    ("0_0 0", 0),
    ("1_0 -\n" + "\n".join(["- -"] * 11), 0),
    ("0\n0", 0),
    ("0 0\n0", 1),
    ("- -\n- -\n3 -\n4 -", 3),
    ("0 0\n1 x\n2 y", 1),
    ("\n".join(["0 0"] * 11 + ["12 0"]), 11),
    ("\n".join(["0 0"] * 11 + ["0 12"]), 11),
    ("\n".join(["0 0"] * 10 + ["0 11"]), 10),
    ("\n".join(["0 0"] * 11) + "\n", 11),
    ("100000000000000000000 0", 0),
    ("0 " + "1" * 1000, 0),
]
TOO_LONG_PLANS = [
    "\n".join(["- -"] * 13),
    "\n".join(["x"] * 13),
    "\n" * 12,
    "\n".join(["0 0"] * 12) + "\n",
    "\n" * 1999,
]
WRONG_VALUES = [
    " ", "  ", "1 ", " 1", "1  2", "1 2 ", " 1 2", "-", "--1", "- 1", "1-", "1 -", "-0", "0 -0", "00", "01", "-01",
    "-00", "1 01", "+1", "+0", "1 +1", "1.0", "1e3", "1_0", "0x1", "a", "None", "True", "1,2", "1, 2", "[1]", "(1)",
    "1 a", "a 1", "!", "~", "1/2", "1:2", "/", ":", " ".join(["1"] * 61), " ".join(["x"] * 61), "1 " * 60, "0 " * 500,
    "-" * 100,
]
MANY_LINES = ["\n", "1\n", "\n1", "1\n2", "x\ny", "1 2\n\n", "\n" * 1999, " ".join(["1"] * 61) + "\n"]


class Plans(unittest.TestCase):
    def test_single_plans(self):
        for plan, text in [
            ([], ""),
            (WHOLE, "0 0"),
            (LEFT_ONLY, "0 -"),
            (ONCE, "- -"),
            ([(1, None), (0, 1)], "1 -\n0 1"),
            ([(None, 2), (1, 0), (None, None)], "- 2\n1 0\n- -"),
            (TWELVE_LEVELS, "1 1\n2 2\n3 3\n4 4\n5 5\n6 6\n7 7\n8 8\n9 9\n10 10\n11 11\n- -"),
            ([(11, 10)] * 12, "\n".join(["11 10"] * 12)),
        ]:
            self.assertEqual(format_plan(plan), text)
            self.assertEqual(parse_plan(text), plan)

    def test_there_and_back(self):
        for plan in PLANS + plans_of(3)[::7]:
            text = format_plan(plan)
            self.assertIs(type(text), str)
            self.assertEqual(parse_plan(text), plan)

    def test_only_one_text_writes_a_plan(self):
        """Of all short texts of some characters, just those are read that are written."""
        texts = [""]
        written = {format_plan(plan) for plan in plans_of(0) + plans_of(1) + plans_of(2)}
        for _ in range(4):
            texts = [text + character for text in texts for character in ["", *"01- \n+2"]]
        for text in set(texts):
            try:
                parse_plan(text)
            except InvalidText:
                self.assertNotIn(text, written, repr(text))
            else:
                self.assertIn(text, written, repr(text))

    def test_what_is_read(self):
        plan = parse_plan("1 -\n0 1")
        self.assertIs(type(plan), list)
        self.assertEqual([type(pair) for pair in plan], [tuple, tuple])
        self.assertEqual([type(entry) for pair in plan for entry in pair], [int, type(None), int, int])

    def test_each_time_a_new_list(self):
        for text in ("", "0 0", "1 -\n0 1"):
            plan = parse_plan(text)
            kept = list(plan)
            plan.append((0, 0))
            self.assertEqual(parse_plan(text), kept)

    def raised_line(self, text):
        with self.assertRaises(InvalidText, msg=repr(text)) as caught:
            parse_plan(text)
        return caught.exception.line

    def test_wrong_texts(self):
        for text, line in WRONG_PLANS:
            found = self.raised_line(text)
            self.assertEqual((type(found), found), (int, line), repr(text))

    def test_no_texts_and_too_many_lines(self):
        for text in NO_TEXTS + TOO_LONG_PLANS:
            self.assertIsNone(self.raised_line(text))

    def test_twelve_lines(self):
        self.assertEqual(parse_plan("\n".join(["- -"] * 12)), [(None, None)] * 12)

    def test_wrong_plans(self):
        for plan, place in [(None, None), ("0 0", None), ([(0, 0)] * 13, None), ([(1, 0)], 0), ([(0, 0), [0, 0]], 1)]:
            with self.assertRaises(InvalidPlan) as caught:
                format_plan(plan)
            self.assertEqual(caught.exception.place, place)


class Values(unittest.TestCase):
    def test_single_lists(self):
        for values, text in [
            ([], ""),
            ([0], "0"),
            ([3, -1], "3 -1"),
            ([-10, 10, 0, 100], "-10 10 0 100"),
            ([BIG, -BIG], "99999999999999999999 -99999999999999999999"),
            ([1] * 60, " ".join(["1"] * 60)),
            ([-BIG] * 60, " ".join(["-" + "9" * 20] * 60)),
        ]:
            self.assertEqual(format_values(values), text)
            self.assertEqual(parse_values(text), values)

    def test_there_and_back(self):
        rows = lists_over(3, 4) + orders(5) + [list(range(-30, 30)), [10 ** power for power in range(20)]]
        for values in rows + [[-value for value in values] for values in rows]:
            text = format_values(values)
            self.assertIs(type(text), str)
            self.assertEqual(parse_values(text), values)
            self.assertEqual([type(value) for value in parse_values(text)], [int] * len(values))

    def test_only_one_text_writes_a_list(self):
        texts = [""]
        for _ in range(5):
            texts = [text + character for text in texts for character in ["", *"012- +\n"]]
        for text in set(texts):
            try:
                values = parse_values(text)
            except InvalidText as error:
                self.assertEqual(error.line, None if "\n" in text else 0, repr(text))
                self.assertFalse(self.is_written(text), repr(text))
            else:
                self.assertEqual(format_values(values), text)

    def is_written(self, text):
        """Whether Python itself reads numbers in this text that are written in the same way again."""
        try:
            return " ".join(str(int(word)) for word in text.split(" ")) == text
        except ValueError:
            return text == ""

    def test_each_time_a_new_list(self):
        for text in ("", "5", "3 -1"):
            values = parse_values(text)
            kept = list(values)
            values.append(1)
            self.assertEqual(parse_values(text), kept)

    def raised_line(self, text):
        with self.assertRaises(InvalidText, msg=repr(text)) as caught:
            parse_values(text)
        return caught.exception.line

    def test_wrong_texts(self):
        for text in WRONG_VALUES:
            found = self.raised_line(text)
            self.assertEqual((type(found), found), (int, 0), repr(text))

    def test_no_texts_and_many_lines(self):
        for text in NO_TEXTS + MANY_LINES:
            self.assertIsNone(self.raised_line(text), repr(text))

    def test_wrong_values(self):
        for values, index in [(None, None), ((1,), None), ("1 2", None), ([1] * 61, None), ([1, True], 1), ([None], 0)]:
            with self.assertRaises(InvalidValues) as caught:
                format_values(values)
            self.assertEqual(caught.exception.index, index)


if __name__ == "__main__":
    unittest.main()
