"""Edits of shapes: each kind by hand, at each edge, against the plain answers, and refused."""

import copy
import random
import unittest
from unittest.mock import ANY

from boxshift.edits import edited, is_edit
from boxshift.errors import BadEdit, BadShape
from tests import plain
from tests.oracles import wrong_order
from tests.support import attempted, caught, is_shape, odd_values, random_shape

EMPTY = ("data", ())
ONE = ("data", (7,))
SHAPE = (("data", (7, 8)), ("table", ((0, 0),)))
# Boxes: 0 group, 1 table, 2 group, 3 data 0, 4 data 1, 5 table; entries: 0 and 1 in box 1, 2 in box 5.
NESTED = (
    ("group", (("table", ((1, 0), (0, 1))), ("group", (("data", (1, 2)),)))),
    ("data", (3,)),
    ("table", ((1, 0),)),
)


class Edits(unittest.TestCase):
    def check_edited(self, shape, edit, after):
        self.assertTrue(is_shape(after), after)
        self.assertEqual(repr(edited(shape, edit)), repr(after), (shape, edit))
        self.assertIs(is_edit(shape, edit), True)

    def check_refused(self, shape, value):
        self.assertIsNotNone(caught(BadEdit, edited, shape, value), (shape, value))
        self.assertIs(is_edit(shape, value), False)


class ExampleTest(Edits):
    def test_word_for_word(self):
        shape = (('data', (7, 8)), ('table', ((0, 0),)))
        more = [edited(shape, ('add', 0, (5,))), is_edit(shape, ('drop', 0)), edited(shape, ('drop', 1)), is_edit(shape, ('fill', 0, ()))]
        self.assertEqual(repr(more), "[(('data', (5,)), ('data', (7, 8)), ('table', ((1, 0),))), False, (('data', (7, 8)),), False]")


class FillTest(Edits):
    def test_cells(self):
        self.check_edited(SHAPE, ("fill", 0, (5,)), (("data", (5,)), SHAPE[1]))
        self.check_edited(SHAPE, ("fill", 0, (7, 8)), SHAPE)
        self.check_edited(SHAPE, ("fill", 0, (0, 99, 1, 2, 3, 4)), (("data", (0, 99, 1, 2, 3, 4)), SHAPE[1]))
        self.check_edited((ONE,), ("fill", 0, ()), (EMPTY,))

    def test_in_groups(self):
        self.check_edited(NESTED, ("fill", 0, (4, 5, 6)),
                          (("group", (("table", ((1, 0), (0, 1))), ("group", (("data", (4, 5, 6)),)))), *NESTED[1:]))
        self.check_edited(NESTED, ("fill", 1, (9, 9)), (NESTED[0], ("data", (9, 9)), NESTED[2]))

    def test_targets_that_are_gone(self):
        self.check_refused(SHAPE, ("fill", 0, ()))
        self.check_refused(NESTED, ("fill", 0, (4,)))
        self.check_refused(NESTED, ("fill", 0, ()))
        self.check_refused(NESTED, ("fill", 1, ()))

    def test_numbers(self):
        for number in [-1, 1, 2, 10 ** 30, None, True, False, "0", (), (0,), [0], ANY]:
            self.check_refused(SHAPE, ("fill", number, (5,)))
        self.check_refused((("table", ()),), ("fill", 0, ()))
        for number in [True, False]:
            self.check_refused((ONE, ONE), ("fill", number, ()))

    def test_cells_of_a_wrong_kind(self):
        for cells in [*odd_values(), [5], [], (5, 100), (-1,), (5, True), (5, None), (5, "5"), (5, (5,)), "5", 5,
                      (1,) * 7, (1,) * 100, range(2), {5: 5}, (10 ** 30,), (5, ANY)]:
            self.check_refused(SHAPE, ("fill", 0, cells))

    def test_thirty_cells(self):
        full = (("data", (0,) * 6),) * 3 + (("data", (0,) * 3),)
        self.check_edited(full, ("fill", 3, (1,) * 4), full[:3] + (("data", (1,) * 4),))
        self.check_refused(full, ("fill", 3, (1,) * 5))


class PointTest(Edits):
    def test_targets(self):
        self.check_edited(SHAPE, ("point", 0, (0, 1)), (SHAPE[0], ("table", ((0, 1),))))
        self.check_edited(SHAPE, ("point", 0, (0, 0)), SHAPE)

    def test_entries_of_all_tables(self):
        inner = NESTED[0][1][1]
        self.check_edited(NESTED, ("point", 0, (0, 0)),
                          (("group", (("table", ((0, 0), (0, 1))), inner)), NESTED[1], NESTED[2]))
        self.check_edited(NESTED, ("point", 1, (1, 0)),
                          (("group", (("table", ((1, 0), (1, 0))), inner)), NESTED[1], NESTED[2]))
        self.check_edited(NESTED, ("point", 2, (0, 1)), (NESTED[0], NESTED[1], ("table", ((0, 1),))))
        three = ("table", ((0, 0),) * 3)
        tables = (("table", ()), three, ("table", ()), ("table", ((0, 0),)), ("data", (1, 1)))
        self.check_edited(tables, ("point", 1, (0, 1)), (tables[0], ("table", ((0, 0), (0, 1), (0, 0))), *tables[2:]))
        self.check_edited(tables, ("point", 3, (0, 1)), (*tables[:3], ("table", ((0, 1),)), tables[4]))

    def test_indices(self):
        for index in [-1, 3, 4, 10 ** 30, None, True, False, "0", (), (0, 0), [0], ANY]:
            self.check_refused(NESTED, ("point", index, (0, 0)))
        self.check_refused((ONE,), ("point", 0, (0, 0)))
        self.check_refused((ONE, ("table", ())), ("point", 0, (0, 0)))

    def test_targets_that_are_no_cells(self):
        for target in [(0, 2), (1, 1), (2, 0), (-1, 0), (0, -1), (0, 10 ** 30), (10 ** 30, 0), (True, 0), (0, False),
                       (0, None), (None, 0), ("0", 0), (0, "0"), (), (0,), (0, 0, 0), [0, 0], 0, None, "00", {0: 0},
                       (ANY, 0), (0, ANY), ((0, 0),), ((0, 0), (0, 0)), *odd_values()]:
            self.check_refused(NESTED, ("point", 0, target))


class DropTest(Edits):
    def test_boxes(self):
        self.check_edited(SHAPE, ("drop", 1), SHAPE[:1])
        self.check_edited((ONE, EMPTY), ("drop", 0), (EMPTY,))
        self.check_edited((ONE, EMPTY), ("drop", 1), (ONE,))

    def test_the_new_numbers_of_data_boxes(self):
        shape = (EMPTY, ("table", ((2, 1),)), ONE, ("data", (1, 2)), ("table", ((2, 0), (2, 1))))
        self.check_edited(shape, ("drop", 0),
                          (("table", ((1, 1),)), ONE, ("data", (1, 2)), ("table", ((1, 0), (1, 1)))))
        self.check_edited(shape, ("drop", 2),
                          (EMPTY, ("table", ((1, 1),)), ("data", (1, 2)), ("table", ((1, 0), (1, 1)))))
        self.check_edited(shape, ("drop", 1), (EMPTY, *shape[2:]))
        self.check_edited(shape, ("drop", 4), shape[:4])

    def test_groups_with_all_in_them(self):
        shape = (ONE, ("group", (EMPTY, ("group", (ONE,)))), ("table", ((0, 0),)))
        self.check_edited(shape, ("drop", 1), (ONE, ("table", ((0, 0),))))
        self.check_edited(shape, ("drop", 2), (ONE, ("group", (("group", (ONE,)),)), ("table", ((0, 0),))))
        self.check_edited(shape, ("drop", 3), (ONE, ("group", (EMPTY,)), ("table", ((0, 0),))))
        self.check_edited(shape, ("drop", 4), (ONE, ("group", (EMPTY, ("group", ()))), ("table", ((0, 0),))))
        shape = (("group", (EMPTY, ("group", (ONE,)))), ("data", (3, 4)), ("table", ((2, 1),)))
        self.check_edited(shape, ("drop", 0), (("data", (3, 4)), ("table", ((0, 1),))))
        self.check_edited(shape, ("drop", 2), (("group", (EMPTY,)), ("data", (3, 4)), ("table", ((1, 1),))))

    def test_tables_that_go_with_their_targets(self):
        shape = (("group", (ONE, ("table", ((0, 0),)))), ("data", (3,)), ("table", ((1, 0),)))
        self.check_edited(shape, ("drop", 0), (("data", (3,)), ("table", ((0, 0),))))
        self.check_refused(shape, ("drop", 1))

    def test_targets_that_are_gone(self):
        self.check_refused(SHAPE, ("drop", 0))
        # Another data box gets the number of the one that is gone.
        self.check_refused((ONE, ONE, ("table", ((0, 0),))), ("drop", 0))
        self.check_refused((ONE, ONE, ("table", ((1, 0),))), ("drop", 1))
        self.check_refused((("group", (ONE,)), ONE, ("table", ((0, 0),))), ("drop", 0))
        for index in [2, 3, 4]:
            self.check_refused(NESTED, ("drop", index))
        self.check_edited(NESTED, ("drop", 0), (("data", (3,)), ("table", ((0, 0),))))

    def test_no_box_left(self):
        for shape in [(ONE,), (("table", ()),), (("group", ()),), (("group", (ONE, ("table", ((0, 0),)))),)]:
            self.check_refused(shape, ("drop", 0))
        self.check_edited((("group", (ONE,)),), ("drop", 1), (("group", ()),))

    def test_indices(self):
        for index in [-1, 2, 3, 10 ** 30, None, True, False, "1", (), (1,), [1], ANY]:
            self.check_refused(SHAPE, ("drop", index))
        for index in [True, False]:
            self.check_refused((ONE, ONE), ("drop", index))
        self.check_refused((("group", (ONE,)), ONE), ("drop", 3))


class AddTest(Edits):
    def test_before_each_box(self):
        self.check_edited(SHAPE, ("add", 0, (5,)), (("data", (5,)), SHAPE[0], ("table", ((1, 0),))))
        self.check_edited(SHAPE, ("add", 1, ()), (SHAPE[0], EMPTY, SHAPE[1]))
        self.check_edited((ONE,), ("add", 0, (1,) * 6), (("data", (1,) * 6), ONE))

    def test_at_the_end_of_all(self):
        self.check_edited(SHAPE, ("add", 2, (5, 6)), (*SHAPE, ("data", (5, 6))))
        shape = (("group", (("group", (ONE,)),)),)
        self.check_edited(shape, ("add", 3, (5,)), (*shape, ("data", (5,))))
        self.check_edited((("group", ()),), ("add", 1, (5,)), (("group", ()), ("data", (5,))))

    def test_next_to_a_box_in_a_group(self):
        shape = (("group", (("group", (ONE,)), EMPTY)), ("table", ((0, 0),)))
        new = ("data", (5,))
        for index, after in [
            (0, (new, shape[0], ("table", ((1, 0),)))),
            (1, (("group", (new, ("group", (ONE,)), EMPTY)), ("table", ((1, 0),)))),
            (2, (("group", (("group", (new, ONE)), EMPTY)), ("table", ((1, 0),)))),
            (3, (("group", (("group", (ONE,)), new, EMPTY)), ("table", ((0, 0),)))),
            (4, (shape[0], new, ("table", ((0, 0),)))),
            (5, (*shape, new)),
        ]:
            self.check_edited(shape, ("add", index, (5,)), after)

    def test_the_new_numbers_of_data_boxes(self):
        shape = (("table", ((0, 0), (1, 1))), ONE, ("data", (1, 2)), ("table", ((1, 0),)))
        for index, first, second in [(0, 1, 2), (1, 1, 2), (2, 0, 2), (3, 0, 1), (4, 0, 1)]:
            boxes = [("table", ((first, 0), (second, 1))), ONE, ("data", (1, 2)), ("table", ((second, 0),))]
            boxes.insert(index, ("data", (9, 9)))
            self.check_edited(shape, ("add", index, (9, 9)), tuple(boxes))

    def test_boxes_and_cells_in_all(self):
        self.check_edited((EMPTY,) * 5, ("add", 5, (1,)), (EMPTY,) * 5 + (("data", (1,)),))
        for index in range(7):
            self.check_refused((EMPTY,) * 6, ("add", index, ()))
        self.check_refused((("group", (EMPTY,) * 5),), ("add", 0, ()))
        full = (("data", (0,) * 6),) * 3
        self.check_edited(full, ("add", 1, (1,) * 4), (full[0], ("data", (1,) * 4), *full[1:]))
        self.check_refused(full, ("add", 1, (1,) * 5))

    def test_indices(self):
        for index in [-1, 3, 4, 10 ** 30, None, True, False, "0", (), (0,), [0], ANY]:
            self.check_refused(SHAPE, ("add", index, (5,)))

    def test_cells_of_a_wrong_kind(self):
        for cells in [*odd_values(), [5], [], (5, 100), (-1,), (True,), (None,), ((5,),), "5", 5, (1,) * 7]:
            self.check_refused(SHAPE, ("add", 0, cells))
            self.check_refused(SHAPE, ("add", 2, cells))


class ValuesTest(Edits):
    def test_values_of_any_kind(self):
        for value in odd_values():
            self.check_refused(SHAPE, value)
            self.check_refused(SHAPE, (value,))
            self.check_refused(SHAPE, (value, 1))
            self.check_refused(SHAPE, (value, 0, (5,)))
            if value.__class__ is not int:
                self.check_refused(SHAPE, ("drop", value))

    def test_words(self):
        for word in ["", "Drop", "drop ", "fil", "data", b"drop", None, 0, ("drop",), ["drop"], {}, ANY]:
            self.check_refused(SHAPE, (word, 1))
            self.check_refused(SHAPE, (word, 0, (5,)))
            self.check_refused(SHAPE, (word, 0, (0, 0)))

    def test_tuples_of_another_size(self):
        for value in [("drop",), ("drop", 1, ()), ("drop", 1, 1), ("fill",), ("fill", 0), ("fill", 0, (5,), 0),
                      ("point", 0), ("point", 0, 0, 0), ("point", 0, (0, 0), 0), ("add", 0), ("add", 2),
                      ("add", 0, (5,), ()), ("add",), (), "drop"]:
            self.check_refused(SHAPE, value)

    def test_lists_in_place_of_tuples(self):
        for value in [["drop", 1], ["fill", 0, (5,)], ["point", 0, (0, 1)], ["add", 0, (5,)], {"drop": 1}]:
            self.check_refused(SHAPE, value)
            self.check_refused(SHAPE, [tuple(value)])
            self.check_refused(SHAPE, (tuple(value),))

    def test_a_value_that_would_take_long_to_walk(self):
        deep = ()
        for _ in range(900):
            deep = (deep, deep)
        for value in [deep, ("add", 0, deep), ("fill", 0, deep), ("point", 0, deep), ("point", 0, (deep, 0)),
                      ("drop", deep), (deep, 0, deep)]:
            # Not by check_refused, which would show such a value if it were not refused.
            self.assertIs(is_edit(SHAPE, value), False)
            self.assertTrue(caught(BadEdit, edited, SHAPE, value) is not None)


class RandomEditsTest(Edits):
    def test_random_edits(self):
        rng = random.Random(31)
        done = dict.fromkeys(["fill", "point", "drop", "add"], 0)
        for _ in range(6000):
            shape = random_shape(rng)
            edit = plain.random_edit(rng, shape)
            after = plain.edited(shape, edit)
            if after is None:
                self.check_refused(shape, edit)
            else:
                done[edit[0]] += 1
                self.check_edited(shape, edit, after)
        self.assertTrue(min(done.values()) > 150, done)

    def test_edits_in_turn(self):
        rng = random.Random(32)
        for _ in range(100):
            shape = random_shape(rng)
            for _ in range(20):
                edit = plain.random_edit(rng, shape)
                after = plain.edited(shape, edit)
                if after is not None:
                    self.check_edited(shape, edit, after)
                    shape = after


class RefusedTest(Edits):
    def test_shapes(self):
        for value in [*odd_values(), (), [], list(SHAPE), (("free", 2),), (EMPTY,) * 7, (("table", ((0, 0),)),)]:
            self.assertIsNotNone(caught(BadShape, edited, value, ("drop", 1)), value)
            self.assertIsNotNone(caught(BadShape, is_edit, value, ("drop", 1)), value)

    def test_the_first_of_two_wrong_arguments(self):
        for wrongs in [[((), BadShape), ((), BadEdit)], [(2, BadShape), (["drop", 1], BadEdit)]]:
            self.assertEqual(wrong_order(edited, [SHAPE, ("drop", 1)], wrongs), [])
        self.assertIsNotNone(caught(BadShape, is_edit, (), ()))

    def test_arguments_stay_as_they_are(self):
        for values in [(SHAPE, ("fill", 0, [5])), (SHAPE, ["drop", 1]), (list(SHAPE), ("drop", 1)),
                       (SHAPE, ("point", 0, [0, 1])), (NESTED, ("drop", 5))]:
            before = copy.deepcopy(values)
            attempted(edited, *values)
            attempted(is_edit, *values)
            self.assertEqual(repr(values), repr(before))
