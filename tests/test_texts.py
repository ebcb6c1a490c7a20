"""Texts of files: by hand, at each edge, against the plain answers, changed, and refused."""

import copy
import random
import unittest
from unittest.mock import ANY

from boxshift.boxes import first_wrong
from boxshift.edits import edited, is_edit
from boxshift.errors import BadFile, BadText
from boxshift.sessions import Session
from boxshift.texts import file_text, read_file
from tests import plain
from tests.support import FILE_KINDS, attempted, caught, odd_values, random_boxes, random_file, told, written

CELLS = [2, 4, 7, 8, 3, 4, 0, 0, 4, 3, 2]
TEXT = "data 7 8\nfree 2\ntable 0.0\n"
NESTED = [1, 14, 2, 3, 5, 1, 7, 4, 3, 4, 3, 2, 1, 2, 2, 2, 3, 3, 0]
NESTED_TEXT = "group\n  data 5\n  group\n    table 0.0\n    free 0\n  group\ndata\nfree 1\n"
FULL = "data 1 1 1 1 1 1\n" * 3 + "data 1 1 1 1\n"


class Texts(unittest.TestCase):
    def check_both(self, cells, text):
        """A file whose free boxes have only zeros, and its text."""
        self.assertIsNone(first_wrong(cells), cells)
        for file in [list(cells), tuple(cells)]:
            self.assertEqual(repr(file_text(file)), repr(text))
        self.assertEqual(repr(read_file(text)), repr(tuple(cells)))

    def check_wrong(self, text, row):
        error = caught(BadText, read_file, text)
        self.assertIsNotNone(error, text)
        self.assertEqual(repr(error.row), repr(row), text)


class ExampleTest(Texts):
    def test_word_for_word(self):
        cells, shape = [2, 4, 7, 8, 3, 4, 0, 0, 4, 3, 2], (('data', (7, 8)), ('table', ((0, 0),)))
        session = Session(cells, 4)
        done = [session.tried([('point', 0, (0, 1))]), session.edit(('fill', 0, (7, 8, 9, 9))), session.current, session.spent(), session.undo()]
        more = [edited(shape, ('add', 0, (5,))), is_edit(shape, ('drop', 0)), edited(shape, ('drop', 1)), is_edit(shape, ('fill', 0, ()))]
        found = [done, more, file_text(cells), read_file('group\n  data 5\n  free 0\ntable 0.0\n')]
        self.assertEqual(repr(found), r"[[[1], 5, (2, 6, 7, 8, 9, 9, 3, 2, 4, 3, 2), 5, (('fill', 0, (7, 8, 9, 9)), 5)], [(('data', (5,)), ('data', (7, 8)), ('table', ((1, 0),))), False, (('data', (7, 8)),), False], 'data 7 8\nfree 2\ntable 0.0\n', (1, 7, 2, 3, 5, 3, 2, 4, 3, 4)]")


class BothWaysTest(Texts):
    def test_the_empty_file(self):
        self.check_both([], "")

    def test_each_kind(self):
        for cells, text in [
            ([1, 2], "group\n"), ([2, 2], "data\n"), ([3, 2], "free 0\n"), ([4, 2], "table\n"),
            ([2, 3, 0], "data 0\n"), ([2, 5, 9, 10, 99], "data 9 10 99\n"), ([3, 12] + [0] * 10, "free 10\n"),
            (CELLS, TEXT), ([4, 4, 6, 7, 2, 4, 5, 5], "table 0.0 0.1\ndata 5 5\n"),
        ]:
            self.check_both(cells, text)

    def test_groups(self):
        self.check_both([1, 4, 1, 2], "group\n  group\n")
        self.check_both([1, 2, 1, 2], "group\ngroup\n")
        self.check_both([1, 4, 2, 2, 2, 2], "group\n  data\ndata\n")
        self.check_both([1, 6, 1, 4, 2, 2, 2, 2], "group\n  group\n    data\ndata\n")
        self.check_both([1, 8, 1, 4, 2, 2, 2, 2, 2, 2], "group\n  group\n    data\n  data\ndata\n")
        self.check_both([1, 8, 1, 4, 2, 2, 1, 2], "group\n  group\n    data\n  group\n")
        self.check_both(NESTED, NESTED_TEXT)

    def test_thirty_cells(self):
        self.check_both([2, 30] + [7] * 28, "data" + " 7" * 28 + "\n")
        self.check_both([3, 30] + [0] * 28, "free 28\n")
        self.check_both([1, 2] * 15, "group\n" * 15)
        self.check_both([2, 8, 1, 1, 1, 1, 1, 1] * 3 + [2, 6, 1, 1, 1, 1], FULL)
        cells = [4, 4, 29, 28] + [2, 2] * 10 + [1, 6, 2, 4, 5, 6]
        self.check_both(cells, "table 10.1 10.0\n" + "data\n" * 10 + "group\n  data 5 6\n")
        self.check_both([2, 25] + [0] * 23 + [4, 5, 2, 12, 24], "data" + " 0" * 23 + "\ntable 0.0 0.10 0.22\n")

    def test_the_cells_in_free_boxes(self):
        self.assertEqual(file_text([3, 5, 7, 8, 9, 1, 5, 3, 3, 4]), "free 3\ngroup\n  free 1\n")
        self.assertEqual(read_file("free 3\ngroup\n  free 1\n"), (3, 5, 0, 0, 0, 1, 5, 3, 3, 0))

    def test_random_files(self):
        rng = random.Random(51)
        for _ in range(1500):
            boxes = random_boxes(rng, FILE_KINDS)
            cells = written(boxes)
            self.check_both(cells, plain.text_of(boxes))
            self.assertEqual(file_text(written(boxes, 5)), file_text(cells))
            self.assertEqual(told(read_file(file_text(cells))), boxes)


class LinesTest(Texts):
    def test_words(self):
        for line in ["", " ", "\t", "dat", "data7", "Data", "DATA 7", "data  7", "data 7 ", "data ", "data 7  8",
                     "data\t7", "data 7,8", "data,7", "free", "free ", "free 1 2", "free 1 ", "free  1", "free x",
                     "free 0.0", "group ", "group 1", "group 0", "groups", "table ", "table 0", "table 0.0 ",
                     "table  0.0", "table 0.0  0.0", "table 0,0", "table 0.0.0", "table .0", "table 0.", "table .",
                     "table 0 0", "table 0. 0", "table 0 .0", "table (0, 0)", "7", "data data", "box", "data 7\r",
                     "\rdata 7", "data 7\x0b", "data\u00a07", "data 7\u2028", "data 7 # 8", "data [7]", "\ufeffdata 7",
                     "data 7\x00", "free free", "None"]:
            self.check_wrong(line + "\n", 0)
            self.check_wrong("data 5\n" + line + "\ntable 0.0\n", 1)
            self.check_wrong("data 5\ngroup\n  " + line + "\n", 2)

    def test_numbers(self):
        for number in ["100", "999", "-1", "-0", "+1", "00", "01", "007", "099", "1.0", "1e1", "0x1", "1_0", "x",
                       "\u0663", "\u00b2", "\uff11", "1\u0663", "9" * 5000, "0" * 50, "True", "", " 1", "1a", "a1",
                       "\u4e09"]:
            for line in [f"data {number}", f"data 7 {number}", f"data {number} 7", f"free {number}",
                         f"table {number}.0", f"table 0.{number}", f"table 0.0 {number}.0", f"table 0.{number} 0.0"]:
                self.check_wrong(f"data 5\n{line}\n", 1)

    def test_numbers_at_the_limits(self):
        self.check_both([2, 6, 0, 9, 10, 99], "data 0 9 10 99\n")
        self.check_wrong("data 5\ntable 99.0\n", 1)
        self.check_wrong("data 5\ntable 0.99\nx\n", 2)
        self.check_wrong("data 5\ntable 0.100\nx\n", 1)
        self.check_wrong("data 5\ntable 100.0\nx\n", 1)
        self.check_wrong("free 29\nx\n", 0)
        self.check_wrong("free 99\nx\n", 0)
        self.check_wrong("free 100\nx\n", 0)

    def test_too_many_spaces(self):
        for text, row in [
            ("  data\n", 0), (" data\n", 0), ("   data\n", 0), ("    data\n", 0), ("  group\n", 0),
            ("data\n  data\n", 1), ("free 0\n  data\n", 1), ("table\n  data\n", 1), ("group\n    data\n", 1),
            ("group\n      data\n", 1), ("group\n  data\n    data\n", 2), ("group\n  group\n      data\n", 2),
            ("group\n  group\ndata\n  data\n", 3), ("group\n  group\n  data\n    data\n", 3),
            ("group\n  data\ndata\n  data\n", 3), ("group\n  group\n    data\n  free 0\n    data\n", 4),
            ("group\ngroup\n    data\n", 2), ("group\n  data\n" + " " * 1000 + "data\n", 2),
        ]:
            self.check_wrong(text, row)
            self.check_wrong(text + "data\n", row)

    def test_an_odd_number_of_spaces(self):
        for spaces in [1, 3, 5, 7]:
            for before in ["", "group\n", "group\n  group\n", "group\n  group\n    data\n"]:
                self.check_wrong(before + " " * spaces + "data\n", before.count("\n"))

    def test_fewer_spaces(self):
        self.check_both([1, 6, 1, 4, 2, 2, 2, 2, 2, 2], "group\n  group\n    data\ndata\ndata\n")
        self.check_both([1, 4, 1, 2, 1, 4, 2, 2], "group\n  group\ngroup\n  data\n")

    def test_other_blanks_before_a_line(self):
        for blank in ["\t", "\t\t", "\u00a0\u00a0", "\u2003", "  \t", "\r", "\x0c"]:
            self.check_wrong("group\n" + blank + "data\n", 1)

    def test_a_group_in_two_groups(self):
        self.check_wrong("group\n  group\n    group\n", 2)
        self.check_wrong("group\n  group\n    group\n      data\n", 2)
        self.check_wrong("group\n  group\n    data\n    group\n", 3)
        self.check_wrong("group\n  group\n    group\nx", 2)
        self.check_both([1, 6, 1, 2, 1, 2], "group\n  group\n  group\n")

    def test_more_than_thirty_cells(self):
        self.check_wrong("data" + " 7" * 29 + "\n", 0)
        self.check_wrong("data" + " 7" * 100000 + "\n", 0)
        self.check_wrong("free 29\n", 0)
        self.check_wrong("free 28\ndata\n", 1)
        self.check_wrong("table" + " 0.0" * 29 + "\n", 0)
        self.check_wrong("group\n" * 16, 15)
        self.check_wrong("data\n" * 100000, 15)
        self.check_wrong(FULL + "data\n", 4)
        self.check_wrong(FULL[:-1] + " 1\n", 3)
        self.check_wrong("group\n  group\n    free 24\n  data\n", 3)
        self.check_wrong("group\n  group\n    free 25\n", 2)
        self.check_wrong("data\n" * 15 + "data\nx\n", 15)
        self.check_wrong("data\n" * 14 + "x\n" + "data\n" * 3, 14)

    def test_characters_behind_the_last_line_feed(self):
        for rest in ["data 7", " ", "x", "\r", "group", "\t", "0", "data\r", "\x00"]:
            self.check_wrong(rest, 0)
            self.check_wrong("data 7\n" + rest, 1)
            self.check_wrong(TEXT + rest, 3)
            self.check_wrong(FULL + rest, 4)

    def test_wrong_lines_come_before_what_follows_the_last_line_feed(self):
        self.check_wrong("data 7\nx\ndata 7", 1)
        self.check_wrong("group\n    data\ndata", 1)

    def test_what_follows_the_last_line_feed_comes_before_entries(self):
        self.check_wrong("table 0.0\ndata 7", 1)
        self.check_wrong("data\ntable 0.0\nfree 0\n ", 3)

    def test_wrong_lines_come_before_entries(self):
        self.check_wrong("table 0.0\nx\n", 1)
        self.check_wrong("table 0.0\n" + "data\n" * 14, 14)
        self.check_wrong("table 0.0\n  data 7\n", 1)

    def test_other_ends_of_lines(self):
        for text, row in [("data 7\r\n", 0), ("data\r", 0), ("data\ndata\r\n", 1), ("data\x0bdata\n", 0), ("\n", 0),
                          ("data\n\n", 1), ("\ndata\n", 0), ("data\n\ndata\n", 1), ("data\x1cdata\n", 0),
                          ("data\u2028data\n", 0), ("data\u0085", 0), ("data\n\r", 1)]:
            self.check_wrong(text, row)


class EntriesTest(Texts):
    def test_entries_without_a_cell(self):
        for text, row in [
            ("table 0.0\n", 0), ("data\ntable 0.0\n", 1), ("data 7\ntable 0.1\n", 1), ("data 7\ntable 1.0\n", 1),
            ("data 7\ntable 0.0 0.1\n", 1), ("data 7\ntable 0.1 0.0\n", 1), ("table 0.2\ndata 7 8\n", 0),
            ("free 3\ntable 0.0\n", 1), ("group\n  data 7\n  table 0.0\ngroup\n  table 0.1\ntable 5.5\n", 4),
            ("table\ntable 1.0\ndata 7\ntable 1.0\n", 1), ("group\n  group\n    table 2.0\ndata 1\ndata 1\n", 2),
            ("table 0.0\ntable 0.1\ndata 7\n", 1), ("data" + " 7" * 11 + "\ntable 0.11\n", 1),
            ("data 7\ntable 99.99\n", 1),
        ]:
            self.check_wrong(text, row)

    def test_entries_with_a_cell(self):
        self.check_both([4, 4, 8, 9, 2, 2, 2, 4, 7, 8], "table 1.0 1.1\ndata\ndata 7 8\n")
        text = "group\n  table 1.0\ndata\ngroup\n  group\n    data 7\n"
        self.check_both([1, 5, 4, 3, 13, 2, 2, 1, 7, 1, 5, 2, 3, 7], text)


def changed(rng, text):
    """A text with a few changes."""
    for _ in range(rng.randint(1, 2)):
        at = rng.randint(0, len(text))
        lines = text.split("\n")
        row = rng.randrange(len(lines))
        action = rng.choice(["put", "take", "indent", "undent", "swap", "line", "number"])
        if action == "put":
            put = rng.choice(["0", "1", " ", "  ", "\n", ".", "x", "9", "data", "group\n", "\r"])
            text = text[:at] + put + text[at:]
        elif action == "take":
            text = text[:at] + text[at + rng.randint(1, 2):]
        else:
            if action == "indent":
                lines[row] = "  " + lines[row]
            elif action == "undent":
                lines[row] = lines[row].removeprefix("  ")
            elif action == "swap":
                other = rng.randrange(len(lines))
                lines[row], lines[other] = lines[other], lines[row]
            elif action == "line":
                line = rng.choice(["group", "data 5", "free 9", "table 1.1"])
                lines.insert(row, rng.choice(["  ", "", "    "]) + line)
            else:
                lines[row] += rng.choice([" 5", " 0.0", " 1.1", " 0.2", " 100"])
            text = "\n".join(lines)
    return text


class ChangedTextsTest(Texts):
    def test_changed_texts(self):
        rng = random.Random(52)
        wrong = 0
        for _ in range(6000):
            text = changed(rng, file_text(random_file(rng)))
            expected = plain.file_of(text)
            if isinstance(expected, int):
                wrong += 1
                self.check_wrong(text, expected)
            else:
                self.assertEqual(repr(read_file(text)), repr(expected), text)
                self.assertEqual(file_text(expected), text)
        self.assertTrue(2000 < wrong < 5500, wrong)

    def test_rows_of_random_lines(self):
        rng = random.Random(53)
        lines = ["group", "group", "data 5", "data 1 2 3", "data", "free 0", "free 3", "table 0.0", "table 0.1 1.0",
                 "table"]
        right = 0
        for _ in range(6000):
            rows = [rng.choice(["", "", "  ", "  ", "    "]) + rng.choice(lines) for _ in range(rng.randint(1, 6))]
            text = "\n".join(rows) + rng.choice(["\n", "\n", "\n", "\n", "", "\n "])
            expected = plain.file_of(text)
            if isinstance(expected, int):
                self.check_wrong(text, expected)
            else:
                right += 1
                self.check_both(expected, text)
        self.assertTrue(right > 300, right)


class RefusedTest(Texts):
    def test_files(self):
        for value in odd_values():
            self.assertIsNone(caught(BadFile, file_text, value).place)
        for cells, place in [([2], 0), ([2, 4, 7], 1), ([4, 3, 0], 2), ([1, 6, 1, 4, 1, 2], 4),
                             ([2, 2] * 15 + [2], None)]:
            self.assertEqual(caught(BadFile, file_text, cells).place, place)

    def test_texts(self):
        for value in [None, True, False, 0, 1, 7, b"", b"data\n", [], ["data\n"], ["data"], (), ("data\n",), {},
                      {"data\n": 1}, {"data\n"}, object(), len, ANY, range(0), iter("")]:
            self.check_wrong(value, 0)

    def test_attributes(self):
        self.assertEqual(vars(caught(BadText, read_file, "data\nx\n")), {"row": 1})

    def test_arguments_stay_as_they_are(self):
        for value in [list(CELLS), [2, 9], [], ["data\n"]]:
            before = copy.deepcopy(value)
            attempted(file_text, value)
            attempted(read_file, value)
            self.assertEqual(repr(value), repr(before))
