"""Shapes at each limit and beyond it, their room and gaps counted by hand, and wrong arguments."""

import copy
import random
import unittest
from unittest.mock import ANY

from boxshift.boxes import shape_of
from boxshift.errors import BadShape
from boxshift.shapes import count_gaps, least_room
from tests.support import SHAPE_KINDS, caught, gaps_in, is_shape, odd_values, random_boxes, written

EMPTY = ("data", ())
ONE = ("data", (7,))


class Shapes(unittest.TestCase):
    def check_shape(self, shape, room, gaps):
        self.assertEqual(repr(least_room(shape)), repr(room), shape)
        self.assertEqual(repr(count_gaps(shape)), repr(gaps), shape)

    def check_refused(self, value):
        for action in [least_room, count_gaps]:
            error = caught(BadShape, action, value)
            self.assertIsNotNone(error, (action, value))
            self.assertEqual(vars(error), {})


class CountsTest(Shapes):
    def test_single_boxes(self):
        self.check_shape((EMPTY,), 2, 2)
        self.check_shape((("table", ()),), 2, 2)
        self.check_shape((("group", ()),), 2, 3)
        self.check_shape((("data", (1, 2, 3)),), 5, 2)

    def test_rows_of_boxes(self):
        self.check_shape((("data", (7, 8, 9, 9)), ("table", ((0, 0),))), 9, 3)
        self.check_shape((EMPTY, EMPTY, EMPTY), 6, 4)

    def test_groups(self):
        self.check_shape((("group", (ONE,)),), 5, 4)
        self.check_shape((("table", ((0, 0),)), ("group", (("data", (5,)),))), 8, 5)
        self.check_shape((("group", ()), ("group", ())), 4, 5)
        self.check_shape((("group", (("group", ()),)),), 4, 5)
        self.check_shape((("group", (ONE, ("group", (EMPTY, ("table", ((0, 0),)))))), EMPTY), 14, 9)


class LimitsTest(Shapes):
    def test_boxes(self):
        self.check_refused(())
        self.check_shape((EMPTY,) * 6, 12, 7)
        self.check_refused((EMPTY,) * 7)

    def test_boxes_in_groups_count(self):
        self.check_shape((("group", (EMPTY,) * 5),), 12, 8)
        self.check_refused((("group", (EMPTY,) * 6),))
        self.check_shape((("group", (("group", (EMPTY, EMPTY)), EMPTY)), EMPTY), 12, 9)
        self.check_refused((("group", (("group", (EMPTY, EMPTY)), EMPTY)), EMPTY, EMPTY))
        self.check_refused((("group", (EMPTY,) * 3),) * 6)

    def test_cells_in_a_data_box(self):
        self.check_shape((("data", (0,) * 6),), 8, 2)
        self.check_refused((("data", (0,) * 7),))
        self.check_refused((("group", (("data", (0,) * 7),)),))

    def test_values_of_cells(self):
        self.check_shape((("data", (0, 99)),), 4, 2)
        for cell in [-1, 100, True, False, None, "0", (), (0,), [0], 10 ** 30, ANY]:
            self.check_refused((("data", (5, cell)),))

    def test_targets_in_a_table(self):
        self.check_shape((ONE, ("table", ((0, 0),) * 6)), 11, 3)
        self.check_refused((ONE, ("table", ((0, 0),) * 7)))

    def test_targets_that_are_no_cells(self):
        boxes = (("data", (1, 2)), EMPTY, ("group", (("data", (3,)),)))
        for target in [(0, 0), (0, 1), (2, 0)]:
            self.check_shape(boxes + (("table", (target,)),), 14, 7)
            self.check_shape((("table", (target,)),) + boxes, 14, 7)
        for target in [(0, 2), (0, -1), (1, 0), (2, 1), (3, 0), (-1, 0), (-2, 0), (0, 10 ** 30), (99, 0)]:
            self.check_refused(boxes + (("table", (target,)),))
            self.check_refused(boxes + (("group", (("table", ((0, 0), target)),)),))
        self.check_refused((("table", ((0, 0),)),))

    def test_targets_of_a_wrong_form(self):
        for target in [(), (0,), (0, 0, 0), [0, 0], 0, None, "00", (True, 0), (0, False), (0, None), ((0, 0), 0),
                       (0, (0, 0)), ("0", 0), {0: 0}, {}]:
            self.check_refused((ONE, ("data", (8,)), ("table", (target,))))

    def test_depth_of_groups(self):
        self.check_shape((("group", (("group", (EMPTY,)),)),), 6, 6)
        self.check_refused((("group", (("group", (("group", ()),)),)),))
        self.check_refused((EMPTY, ("group", (EMPTY, ("group", (("group", ()),))))))

    def test_cells_in_all(self):
        full = (("data", (0,) * 6),) * 3
        self.check_shape(full + (("data", (0,) * 4),), 30, 5)
        self.check_refused(full + (("data", (0,) * 5),))
        self.check_shape(full + (("group", (("data", (0,) * 2),)),), 30, 7)
        self.check_refused(full + (("group", (("data", (0,) * 3),)),))
        self.check_shape(full + (("table", ((2, 5),) * 4),), 30, 5)
        self.check_refused(full + (("table", ((2, 5),) * 5),))

    def test_free_boxes(self):
        for free in [("free", 0), ("free", 3), ("free", ()), ("free", (0, 0))]:
            self.check_refused((free,))
            self.check_refused((ONE, free))
            self.check_refused((("group", (free,)),))

    def test_lists_in_place_of_tuples(self):
        for value in [[ONE], [], (["data", (7,)],), (("data", [7]),), (("data", []),), (("group", [ONE]),),
                      (("group", []),), (("table", []),), (ONE, ("table", [(0, 0)])), (ONE, ("table", ([0, 0],))),
                      (("group", (["data", (7,)],)),)]:
            self.check_refused(value)

    def test_boxes_of_a_wrong_form(self):
        for box in [(), ("data",), ("data", (), ()), "ab", None, 2, True, [], {}, ("Data", ()), ("", ()), (2, ()),
                    (None, ()), (("data",), ()), ([], ()), ({}, ()), ("data", None), ("data", 0), ("data", "7"),
                    ("data", {}), ("group", None), ("group", 2), ("group", "a"), ("group", ONE), ("group", {}),
                    ("table", None), ("table", {}), ("table", 0), (True, ()), (b"data", ()), (ANY, ()), ("data", ANY)]:
            self.check_refused((box,))
            self.check_refused((ONE, box))
            self.check_refused((("group", (box,)),))


def spoiled(rng, value):
    """A value of which one part, at any depth, is another one."""
    if isinstance(value, tuple) and value and rng.random() < 0.8:
        at = rng.randrange(len(value))
        return value[:at] + (spoiled(rng, value[at]),) + value[at + 1:]
    if isinstance(value, tuple) and rng.random() < 0.5:
        return rng.choice([value * 2, value[:-1], value + (ONE,), value + (0,), list(value), value * 7])
    return rng.choice([0, 1, 2, -1, 99, 100, True, False, None, "data", "group", "table", "free", (), (0, 0), (1, 0)])


class RandomShapesTest(Shapes):
    def test_random_shapes(self):
        rng = random.Random(4)
        right = 0
        for _ in range(4000):
            shape = random_boxes(rng, SHAPE_KINDS)
            if is_shape(shape):
                right += 1
                cells = written(shape)
                self.check_shape(shape, len(cells), gaps_in(shape))
                self.assertEqual(shape_of(cells), shape)
            else:
                self.check_refused(shape)
        self.assertTrue(2000 < right < 3800, right)

    def test_spoiled_shapes(self):
        rng = random.Random(5)
        right = 0
        for _ in range(20000):
            value = spoiled(rng, random_boxes(rng, SHAPE_KINDS))
            if is_shape(value):
                right += 1
                self.check_shape(value, len(written(value)), gaps_in(value))
            else:
                self.check_refused(value)
        self.assertTrue(1000 < right < 15000, right)


class ArgumentsTest(Shapes):
    def test_wrong_values(self):
        for value in odd_values():
            self.check_refused(value)
            self.check_refused((value,))
            self.check_refused((("group", value),))
            self.check_refused((("data", value),))
            self.check_refused((ONE, ("table", value)))

    def test_values_that_would_take_long_to_walk(self):
        wide = ONE
        deep = ()
        for _ in range(2):
            wide = ("group", (wide,) * 1000)
        for _ in range(900):
            deep = (("group", deep),)
        # Not by check_refused, which would show such a value if it were not refused.
        for value in [(wide,) * 1000, (wide,), deep]:
            for action in [least_room, count_gaps]:
                self.assertTrue(caught(BadShape, action, value))

    def test_arguments_stay_as_they_are(self):
        for shape in [(("group", (ONE, ("table", ((0, 0),)))),), (("data", [1, 2]),), [ONE], (("group", [EMPTY]),)]:
            before = copy.deepcopy(shape)
            for action in [least_room, count_gaps]:
                caught(BadShape, action, shape)
                self.assertEqual(repr(shape), repr(before))
