"""Cells, boxes and the first wrong place: the edges that the document names, and wrong arguments."""

import copy
import itertools
import unittest

from boxshift.boxes import first_wrong, free_cells, read, shape_of
from boxshift.errors import BadFile
from tests.support import caught, free_room, odd_values, pruned, told, wrong_place

READERS = [read, shape_of, free_cells]


class Files(unittest.TestCase):
    def check_file(self, cells, boxes):
        for row in [list(cells), tuple(cells)]:
            self.assertIsNone(first_wrong(row), row)
            self.assertEqual(repr(read(row)), repr(boxes))
            self.assertEqual(repr(shape_of(row)), repr(pruned(boxes)))
            self.assertEqual(repr(free_cells(row)), repr(free_room(boxes)))

    def check_wrong(self, cells, place):
        for row in [list(cells), tuple(cells)]:
            self.assertEqual(repr(first_wrong(row)), repr(place), row)
            self.check_refused(row, READERS, place)

    def check_no_cells(self, value):
        self.check_refused(value, READERS + [first_wrong], None)

    def check_refused(self, value, actions, place):
        for action in actions:
            error = caught(BadFile, action, value)
            self.assertIsNotNone(error, (action, value))
            self.assertEqual(repr(error.place), repr(place), (action, value))


class ExampleTest(Files):
    def test_word_for_word(self):
        cells = [3, 3, 0, 1, 7, 2, 4, 7, 8, 3, 4, 3, 8]
        wrong = [first_wrong(one) for one in [[2, 4, 7], [4, 3, 0], [1, 2, 5, 2], [2, 2, 2], [1, 2, 1, 6, 1, 4, 1, 2], cells[:3] + [4, 3, 3]]]
        found = [first_wrong(cells), wrong, first_wrong([2, 3, 7, 3, 4, 5, 5, 4, 3, 2]), read([2, 3, 7, 3, 4, 5, 5, 4, 3, 2]), shape_of([1, 6, 3, 2, 2, 2]), free_cells([1, 6, 3, 2, 2, 2])]
        told_there = "[9, [1, 2, 2, 2, 6, 5], None, (('data', (7,)), ('free', 2), ('table', ((0, 0),))), (('group', (('data', ()),)),), 2]"
        self.assertEqual(repr(found), told_there)


class CellsTest(Files):
    def test_no_cell_at_all(self):
        self.check_file([], ())

    def test_thirty_cells(self):
        self.check_file([2, 30] + list(range(28)), (("data", tuple(range(28))),))
        self.check_file([3, 30] + [99] * 28, (("free", 28),))
        self.check_file([2, 2] * 15, (("data", ()),) * 15)

    def test_thirty_one_cells(self):
        self.check_no_cells([2, 31] + [0] * 29)
        self.check_no_cells((3, 30) + (99,) * 28 + (0,))
        self.check_no_cells([2, 2] * 500)

    def test_least_and_largest_cell(self):
        self.check_file([2, 4, 0, 99], (("data", (0, 99)),))
        self.check_file([3, 4, 0, 99], (("free", 2),))
        self.check_no_cells([2, 3, -1])
        self.check_no_cells((2, 3, 100))

    def test_wrong_cells_come_before_wrong_places(self):
        self.check_no_cells([5, 2, -1])
        self.check_no_cells((2, 9, None))


class BoxesTest(Files):
    def test_each_kind(self):
        self.check_file([1, 2], (("group", ()),))
        self.check_file([2, 3, 5], (("data", (5,)),))
        self.check_file([3, 3, 5], (("free", 1),))
        self.check_file([2, 3, 5, 4, 3, 2], (("data", (5,)), ("table", ((0, 0),))))

    def test_no_kind(self):
        for kind in [0, 5, 6, 99]:
            self.check_wrong([kind, 2], 0)
            self.check_wrong([2, 2, kind, 2], 2)
            self.check_wrong([1, 4, kind, 2], 2)

    def test_a_wrong_kind_comes_before_its_length(self):
        self.check_wrong([0, 0], 0)
        self.check_wrong([5, 99], 0)

    def test_one_cell_left(self):
        for kind in range(6):
            self.check_wrong([kind], 0)
            self.check_wrong([2, 2, kind], 2)
            self.check_wrong([1, 3, kind], 2)
            self.check_wrong([1, 3, kind, 2, 2], 2)
            self.check_wrong([1, 5, 2, 2, kind], 4)

    def test_lengths(self):
        for kind in range(1, 5):
            self.check_wrong([kind, 0], 1)
            self.check_wrong([kind, 1], 1)
            self.check_file([kind, 2], told([kind, 2]))
            self.check_wrong([kind, 3], 1)
            self.check_wrong([kind, 99], 1)

    def test_a_length_of_just_as_many_as_are_left(self):
        self.check_file([2, 2, 2, 4, 0, 0], (("data", ()), ("data", (0, 0))))
        self.check_wrong([2, 2, 2, 5, 0, 0], 3)
        self.check_file([1, 6, 2, 4, 0, 0], (("group", (("data", (0, 0)),)),))
        self.check_wrong([1, 6, 2, 5, 0, 0, 3, 2], 3)
        self.check_wrong([1, 7, 2, 4, 0, 0], 1)

    def test_a_wrong_length_in_the_last_box(self):
        self.check_wrong([2, 2, 3, 2, 4, 1], 5)

    def test_empty_boxes(self):
        boxes = (("group", ()), ("data", ()), ("free", 0), ("table", ()))
        self.check_file([1, 2, 2, 2, 3, 2, 4, 2], boxes)
        self.check_file([1, 10, 1, 2, 2, 2, 3, 2, 4, 2], (("group", boxes),))

    def test_groups_in_groups(self):
        self.check_file([1, 4, 1, 2], (("group", (("group", ()),)),))
        self.check_file([1, 6, 1, 2, 1, 2], (("group", (("group", ()), ("group", ()))),))
        self.check_file([1, 6, 1, 4, 3, 2, 3, 2], (("group", (("group", (("free", 0),)),)), ("free", 0)))

    def test_a_group_in_two_groups(self):
        self.check_wrong([1, 6, 1, 4, 1, 2], 4)
        self.check_wrong([1, 6, 1, 4, 1, 0], 4)
        self.check_wrong([1, 8, 1, 6, 2, 2, 1, 2], 6)
        self.check_wrong([1, 2, 1, 6, 1, 4, 1, 2], 6)
        self.check_file([1, 4, 1, 2, 1, 2], (("group", (("group", ()),)), ("group", ())))

    def test_boxes_in_a_group_are_read_before_those_after_it(self):
        self.check_wrong([1, 4, 2, 1, 5, 2], 3)
        self.check_wrong([1, 4, 2, 2, 5, 2], 4)

    def test_numbers_of_data_boxes(self):
        cells = [1, 5, 2, 3, 7, 3, 2, 2, 2, 2, 3, 8, 4, 4, 11, 4]
        group = ("group", (("data", (7,)),))
        self.check_file(
            cells, (group, ("free", 0), ("data", ()), ("data", (8,)), ("table", ((2, 0), (0, 0))))
        )

    def test_shapes_that_are_not_as_in_point_5(self):
        self.assertEqual(shape_of([]), ())
        self.assertEqual(shape_of([3, 4, 0, 0]), ())
        self.assertEqual(shape_of([2, 2] * 15), (("data", ()),) * 15)
        self.assertEqual(shape_of([2, 9] + [5] * 7), (("data", (5,) * 7),))
        self.assertEqual(shape_of([2, 3, 1, 4, 9] + [2] * 7), (("data", (1,)), ("table", ((0, 0),) * 7)))

    def test_no_free_box_at_any_depth(self):
        cells = [3, 2, 1, 13, 3, 2, 1, 7, 3, 2, 2, 3, 8, 3, 2, 3, 3, 0]
        self.assertEqual(shape_of(cells), (("group", (("group", (("data", (8,)),)),)),))
        self.assertEqual(free_cells(cells), 11)


class EntriesTest(Files):
    def test_an_entry_of_each_cell_of_data(self):
        cells = [2, 4, 7, 8, 4, 4, 2, 3]
        self.check_file(cells, (("data", (7, 8)), ("table", ((0, 0), (0, 1)))))

    def test_the_first_two_cells_of_a_data_box(self):
        self.check_wrong([2, 3, 7, 4, 3, 0], 5)
        self.check_wrong([2, 3, 7, 4, 3, 1], 5)
        self.check_wrong([2, 2, 4, 3, 0], 4)

    def test_other_boxes(self):
        for place in [0, 1, 2, 3, 4, 5, 6, 8, 9, 10, 11, 12, 13]:
            self.check_wrong([3, 3, 0, 1, 5, 2, 3, 8, 1, 2, 4, 4, 7, place], 13)
        self.check_wrong([3, 3, 0, 4, 3, 2], 5)
        self.check_wrong([2, 3, 7, 4, 4, 2, 5], 6)

    def test_behind_the_end(self):
        self.check_wrong([2, 3, 7, 4, 3, 6], 5)
        self.check_wrong([2, 3, 7, 4, 3, 99], 5)

    def test_a_data_box_after_the_table(self):
        self.check_file([4, 3, 5, 2, 3, 7], (("table", ((0, 0),)), ("data", (7,))))
        self.check_file([1, 5, 4, 3, 7, 2, 3, 9], (("group", (("table", ((0, 0),)),)), ("data", (9,))))
        self.check_wrong([4, 3, 4, 2, 3, 7], 2)

    def test_the_first_of_several_wrong_entries(self):
        self.check_wrong([2, 3, 7, 4, 5, 2, 0, 1], 6)
        self.check_wrong([4, 3, 0, 4, 3, 0], 2)
        self.check_wrong([1, 5, 4, 3, 0, 4, 3, 0], 4)

    def test_a_wrong_box_after_a_wrong_entry_counts(self):
        self.check_wrong([4, 3, 0, 5, 2], 3)
        self.check_wrong([4, 3, 0, 2, 9], 4)
        self.check_wrong([1, 5, 4, 3, 0, 7], 5)
        self.check_wrong([4, 3, 0, 1, 6, 1, 4, 1, 2], 7)


class EveryRowTest(Files):
    def test_all_short_rows(self):
        for many in range(6):
            for row in itertools.product(range(6), repeat=many):
                place = wrong_place(row)
                self.assertEqual(first_wrong(row), place, row)
                if place is None:
                    self.check_file(row, told(row))


class ArgumentsTest(Files):
    def test_wrong_values(self):
        for value in odd_values():
            self.check_no_cells(value)

    def test_arguments_stay_as_they_are(self):
        for cells in [[2, 4, 7, 8, 3, 4, 0, 0, 4, 3, 2], [2, 4, 7], [4, 3, 0], [None, [1]], [2] * 31]:
            before = copy.deepcopy(cells)
            for action in READERS + [first_wrong]:
                caught(BadFile, action, cells)
                self.assertEqual(repr(cells), repr(before))

    def test_results_do_not_follow_the_argument(self):
        cells = [2, 4, 7, 8, 4, 3, 2]
        boxes, shape = read(cells), shape_of(cells)
        cells[:] = [3, 2]
        self.assertEqual(boxes, (("data", (7, 8)), ("table", ((0, 0),))))
        self.assertEqual(shape, boxes)

    def test_results_hold_only_tuples(self):
        boxes = read([1, 8, 2, 3, 7, 4, 3, 4, 3, 2])
        self.assertEqual(repr(boxes), "(('group', (('data', (7,)), ('table', ((0, 0),)))), ('free', 0))")
