"""Data boxes that grow in their places: by hand, at each edge, against the plain answers, and refused."""

import copy
import random
import unittest

from boxshift.boxes import first_wrong
from boxshift.errors import BadBox, BadFile, BadGrowth
from boxshift.growing import grown, growths, tight
from tests import plain
from tests.oracles import wrong_order
from tests.support import attempted, boxes_in, caught, odd_values, random_file, told

CELLS = [2, 4, 7, 8, 3, 4, 0, 0, 4, 3, 2]
FULL = [2, 20] + [5] * 18 + [3, 10] + [6] * 8


class Growing(unittest.TestCase):
    def check_grown(self, cells, number, content, after):
        """A growth that is possible, with the content as a list and as a tuple."""
        for before in [list(cells), tuple(cells)]:
            for one in [list(content), tuple(content)]:
                self.assertEqual(repr(grown(before, number, one)), repr(tuple(after)), (cells, number, content))
        self.assertIsNone(first_wrong(after))
        self.assertEqual(len(cells), len(after))

    def check_refused(self, cells, number, content):
        self.assertIsNotNone(caught(BadGrowth, grown, cells, number, content), (cells, number, content))


class ExampleTest(Growing):
    def test_word_for_word(self):
        cells = [2, 4, 7, 8, 3, 4, 0, 0, 4, 3, 2]
        found = [growths(cells, 0), grown(cells, 0, (7, 8, 9)), grown(cells, 0, [5, 5, 5, 5, 5, 5]), tight(cells), tight([2, 3, 5]), growths([2, 5, 6, 7, 8], 0)]
        self.assertEqual(repr(found), "[[-2, -1, 0, 1, 2, 4], (2, 5, 7, 8, 9, 3, 3, 0, 4, 3, 2), (2, 8, 5, 5, 5, 5, 5, 5, 4, 3, 2), [], [0], [-3, -2, 0]]")


class GrowthsTest(Growing):
    def test_no_free_box(self):
        self.assertEqual(growths([2, 2], 0), [0])
        self.assertEqual(growths([2, 3, 5], 0), [0])
        self.assertEqual(growths([2, 4, 5, 5], 0), [-2, 0])
        self.assertEqual(growths([2, 8, 1, 1, 1, 1, 1, 1], 0), [-6, -5, -4, -3, -2, 0])

    def test_a_free_box_of_each_length(self):
        self.assertEqual(growths([2, 2, 3, 2], 0), [0, 2])
        self.assertEqual(growths([2, 2, 3, 3, 0], 0), [0, 1, 3])
        self.assertEqual(growths([2, 2, 3, 4, 0, 0], 0), [0, 1, 2, 4])
        self.assertEqual(growths([2, 3, 9, 3, 2], 0), [-1, 0, 2])
        self.assertEqual(growths(FULL, 0), [*range(-18, 9), 10])
        self.assertEqual(growths([2, 2, 3, 28] + [0] * 26, 0), [*range(27), 28])

    def test_only_the_box_directly_after_it(self):
        self.assertEqual(growths([3, 4, 0, 0, 2, 2], 0), [0])
        self.assertEqual(growths([2, 2, 2, 2, 3, 2], 0), [0])
        self.assertEqual(growths([2, 2, 2, 2, 3, 2], 1), [0, 2])
        self.assertEqual(growths([2, 2, 4, 2, 3, 2], 0), [0])
        self.assertEqual(growths([2, 2, 1, 4, 3, 2], 0), [0])
        self.assertEqual(growths([2, 2, 3, 2, 3, 6, 0, 0, 0, 0], 0), [0, 2])
        self.assertEqual(growths([2, 2, 3, 3, 0, 3, 3, 0], 0), [0, 1, 3])

    def test_only_in_the_same_group(self):
        self.assertEqual(growths([1, 4, 2, 2, 3, 2], 0), [0])
        self.assertEqual(growths([1, 6, 2, 2, 3, 2], 0), [0, 2])
        self.assertEqual(growths([1, 6, 1, 4, 2, 2, 3, 2], 0), [0])
        self.assertEqual(growths([1, 8, 1, 4, 2, 2, 3, 2], 0), [0])
        self.assertEqual(growths([1, 8, 1, 6, 2, 2, 3, 2], 0), [0, 2])
        self.assertEqual(growths([1, 6, 1, 2, 2, 2, 3, 4, 0, 0], 0), [0])
        self.assertEqual(growths([1, 2, 2, 2, 3, 2], 0), [0, 2])

    def test_whatever_entries_there_are(self):
        self.assertEqual(growths([2, 4, 7, 8, 4, 4, 2, 3], 0), [-2, 0])
        self.assertEqual(growths([4, 3, 5, 2, 3, 7, 3, 2], 0), [-1, 0, 2])

    def test_several_data_boxes(self):
        cells = [2, 2, 3, 2, 1, 9, 2, 3, 5, 3, 4, 1, 1, 2, 4, 6, 6]
        self.assertEqual([growths(cells, number) for number in range(3)], [[0, 2], [-1, 0, 1, 2, 4], [-2, 0]])

    def test_random_files(self):
        rng = random.Random(21)
        for _ in range(250):
            cells = random_file(rng)
            for number in range(len([kind for kind, _ in boxes_in(told(cells)) if kind == "data"])):
                self.assertEqual(repr(growths(cells, number)), repr(plain.growths(cells, number)), (cells, number))

    def test_it_is_new(self):
        growths(CELLS, 0).clear()
        self.assertEqual(len(growths(CELLS, 0)), 6)


class GrownTest(Growing):
    def test_the_same_length(self):
        self.check_grown(CELLS, 0, (7, 8), CELLS)
        self.check_grown(CELLS, 0, (0, 99), [2, 4, 0, 99, 3, 4, 0, 0, 4, 3, 2])
        self.check_grown([2, 2], 0, (), [2, 2])

    def test_a_free_box_that_begins_later(self):
        before = [2, 4, 7, 8, 3, 6, 11, 12, 13, 14, 4, 3, 2]
        self.check_grown(before, 0, (7, 8, 9), [2, 5, 7, 8, 9, 3, 5, 12, 13, 14, 4, 3, 2])
        self.check_grown(before, 0, (7, 8, 9, 9), [2, 6, 7, 8, 9, 9, 3, 4, 13, 14, 4, 3, 2])
        self.check_grown(before, 0, (7, 8, 9, 9, 9, 9), [2, 8, 7, 8, 9, 9, 9, 9, 3, 2, 4, 3, 2])

    def test_a_free_box_that_is_gone(self):
        self.check_grown([2, 2, 3, 2, 2, 3, 5], 0, (7, 8), [2, 4, 7, 8, 2, 3, 5])
        self.check_grown(CELLS, 0, (1, 2, 3, 4, 5, 6), [2, 8, 1, 2, 3, 4, 5, 6, 4, 3, 2])
        self.check_grown(FULL, 0, (7,) * 28, [2, 30] + [7] * 28)

    def test_a_free_box_that_would_have_one_cell(self):
        self.check_refused([2, 2, 3, 2], 0, (7,))
        self.check_refused([2, 3, 5], 0, ())
        self.check_refused(CELLS, 0, (7, 8, 9, 9, 9))
        self.check_refused(FULL, 0, (7,) * 27)

    def test_a_free_box_that_begins_sooner(self):
        before = [2, 5, 7, 8, 9, 3, 4, 11, 12, 2, 2]
        self.check_grown(before, 0, (7, 8), [2, 4, 7, 8, 3, 5, 4, 11, 12, 2, 2])
        self.check_grown(before, 0, (7,), [2, 3, 7, 3, 6, 3, 4, 11, 12, 2, 2])
        self.check_grown(before, 0, (), [2, 2, 3, 7, 9, 3, 4, 11, 12, 2, 2])

    def test_a_new_free_box(self):
        before = [2, 6, 7, 8, 9, 10, 2, 2]
        self.check_grown(before, 0, (1, 2), [2, 4, 1, 2, 3, 2, 2, 2])
        self.check_grown(before, 0, (1,), [2, 3, 1, 3, 3, 10, 2, 2])
        self.check_grown(before, 0, [], [2, 2, 3, 4, 9, 10, 2, 2])
        self.check_refused(before, 0, (1, 2, 3))

    def test_no_more_room(self):
        for many in [3, 4, 30, 1000]:
            self.check_refused([2, 4, 7, 8, 2, 2], 0, (7,) * many)
        for many in [7, 8, 99]:
            self.check_refused(CELLS, 0, (7,) * many)
        self.check_refused([2, 2, 3, 28] + [0] * 26, 0, (7,) * 29)

    def test_in_groups(self):
        before = [1, 10, 1, 8, 2, 3, 5, 3, 3, 6, 3, 2]
        self.check_grown(before, 0, (5, 5), [1, 10, 1, 8, 2, 4, 5, 5, 3, 2, 3, 2])
        self.check_grown(before, 0, (5, 5, 5, 5), [1, 10, 1, 8, 2, 6, 5, 5, 5, 5, 3, 2])
        self.check_grown(before, 0, (), [1, 10, 1, 8, 2, 2, 3, 4, 3, 6, 3, 2])
        for many in [3, 5, 6]:
            self.check_refused(before, 0, (5,) * many)

    def test_a_free_box_of_another_group_stays(self):
        self.check_refused([1, 5, 2, 3, 5, 3, 4, 0, 0], 0, (5, 5))
        self.check_grown([1, 6, 2, 4, 5, 6, 3, 4, 0, 0], 0, (), [1, 6, 2, 2, 3, 2, 3, 4, 0, 0])
        self.check_grown([2, 4, 5, 6, 1, 4, 3, 2], 0, (), [2, 2, 3, 2, 1, 4, 3, 2])

    def test_a_second_free_box_stays(self):
        self.check_grown([2, 2, 3, 2, 3, 2], 0, (1, 1), [2, 4, 1, 1, 3, 2])
        self.check_refused([2, 2, 3, 2, 3, 2], 0, (1, 1, 1, 1))

    def test_entries_that_point_to_cells_that_are_gone(self):
        before = [4, 4, 6, 7, 2, 5, 1, 2, 3, 2, 3, 9]
        self.check_grown(before, 0, (5, 5, 5), [4, 4, 6, 7, 2, 5, 5, 5, 5, 2, 3, 9])
        self.check_refused(before, 0, ())
        self.check_refused([4, 3, 6, 2, 5, 8, 8, 8], 0, (1,))
        before = [4, 3, 5, 2, 6, 1, 2, 3, 4, 4, 2]
        self.check_grown(before, 0, (7, 7), [4, 3, 5, 2, 4, 7, 7, 3, 2, 4, 2])
        self.check_grown(before, 0, (7,), [4, 3, 5, 2, 3, 7, 3, 3, 4, 4, 2])
        self.check_refused(before, 0, ())
        self.check_refused([2, 6, 1, 2, 3, 4, 4, 3, 3], 0, (7,))
        self.check_grown([2, 6, 1, 2, 3, 4, 4, 3, 3], 0, (7, 7), [2, 4, 7, 7, 3, 2, 4, 3, 3])

    def test_entries_in_groups_and_of_other_boxes(self):
        before = [2, 4, 1, 1, 1, 7, 1, 5, 4, 3, 15, 2, 2, 2, 4, 3, 3]
        self.check_refused(before[:10] + [3] + before[11:], 0, ())
        self.check_grown(before, 0, [], [2, 2, 3, 2, *before[4:]])
        self.check_refused(before, 2, [])

    def test_cells_that_look_like_entries(self):
        self.check_grown([2, 4, 2, 3, 3, 4, 2, 3], 0, (), [2, 2, 3, 6, 3, 4, 2, 3])

    def test_contents_that_are_no_cells(self):
        for content in [*odd_values(), (7, True), [7, 100], (7, -1), [7, None], "78", b"\x07\x08", {7: 1, 8: 1},
                        {7, 8}, range(2), (7, (8,)), [7, "8"], iter([7, 8]), (99, 10 ** 30)]:
            self.check_refused(CELLS, 0, content)

    def test_random_files(self):
        rng = random.Random(22)
        possible = 0
        for _ in range(300):
            cells = random_file(rng)
            for number in range(len([kind for kind, _ in boxes_in(told(cells)) if kind == "data"])):
                content = [rng.randint(0, 99) for _ in range(rng.choice([0, 0, 1, 2, 3, 4, 5, 8]))]
                after = plain.grown(cells, number, content)
                if after is None:
                    self.check_refused(cells, number, content)
                else:
                    possible += 1
                    self.check_grown(cells, number, content, after)
        self.assertTrue(possible > 150, possible)


class TightTest(Growing):
    def test_no_data_box(self):
        self.assertEqual([tight(cells) for cells in [[], [3, 2], [1, 2], (4, 2)]], [[], [], [], []])

    def test_by_the_free_box(self):
        self.assertEqual(tight([2, 2]), [0])
        self.assertEqual(tight([2, 2, 3, 2]), [0])
        self.assertEqual(tight([2, 2, 3, 3, 0]), [])
        self.assertEqual(tight([2, 2, 3, 28] + [0] * 26), [])

    def test_several(self):
        self.assertEqual(tight([2, 2, 3, 3, 0, 2, 2, 2, 2, 3, 2, 1, 9, 2, 2, 3, 3, 0, 2, 2, 3, 3, 0]), [1, 2, 4])
        self.assertEqual(tight([2, 2] * 15), list(range(15)))

    def test_random_files(self):
        rng = random.Random(23)
        for _ in range(250):
            cells = random_file(rng)
            many = len([kind for kind, _ in boxes_in(told(cells)) if kind == "data"])
            found = [number for number in range(many) if 1 not in plain.growths(cells, number)]
            self.assertEqual(repr(tight(tuple(cells))), repr(found), cells)

    def test_it_is_new(self):
        tight([2, 2]).clear()
        self.assertEqual(tight([2, 2]), [0])


class RefusedTest(Growing):
    def test_files(self):
        for value in odd_values():
            self.assertIsNone(caught(BadFile, growths, value, 0).place)
            self.assertIsNone(caught(BadFile, grown, value, 0, ()).place)
            self.assertIsNone(caught(BadFile, tight, value).place)
        for cells, place in [([2], 0), ([2, 4, 7], 1), ([4, 3, 0], 2), ([2, 2] * 15 + [2], None)]:
            self.assertEqual(caught(BadFile, growths, cells, 0).place, place)
            self.assertEqual(caught(BadFile, grown, cells, 0, ()).place, place)
            self.assertEqual(caught(BadFile, tight, cells).place, place)

    def test_numbers(self):
        for number in [-1, 1, 2, 10 ** 30, -10 ** 30, None, True, False, "0", "", (), (0,), [0], {}, {0: 0}, b"", len]:
            self.assertIsNotNone(caught(BadBox, growths, CELLS, number), number)
            self.assertIsNotNone(caught(BadBox, grown, CELLS, number, (7, 8)), number)

    def test_true_is_no_number(self):
        for number in [True, False]:
            self.assertIsNotNone(caught(BadBox, growths, [2, 2, 2, 2], number))
            self.assertIsNotNone(caught(BadBox, grown, [2, 2, 2, 2], number, ()))

    def test_no_data_box(self):
        for cells in [[], [3, 2], [1, 2], [4, 2]]:
            for number in [0, -1]:
                self.assertIsNotNone(caught(BadBox, growths, cells, number))
                self.assertIsNotNone(caught(BadBox, grown, cells, number, ()))

    def test_boxes_of_other_kinds_do_not_count(self):
        self.assertIsNotNone(caught(BadBox, growths, [1, 4, 2, 2, 3, 2], 1))
        self.assertEqual(growths([4, 2, 3, 2, 1, 4, 2, 2], 0), [0])

    def test_the_first_of_two_wrong_arguments(self):
        wrongs = [([2], BadFile), (1, BadBox), ((100,), BadGrowth)]
        self.assertEqual(wrong_order(grown, [CELLS, 0, (7, 8)], wrongs), [])
        self.assertEqual(wrong_order(grown, [CELLS, 0, (7, 8)], [(2, BadFile), (None, BadBox), (2, BadGrowth)]), [])
        self.assertEqual(wrong_order(growths, [CELLS, 0], wrongs[:2]), [])

    def test_arguments_stay_as_they_are(self):
        for values in [(CELLS, 0, [7, 8, 9]), (CELLS, 0, [7]), (CELLS, 1, [7]), ([2, 9], 0, [7]), (CELLS, [0], [100])]:
            before = copy.deepcopy(values)
            attempted(grown, *values)
            attempted(growths, *values[:2])
            attempted(tight, values[0])
            self.assertEqual(repr(values), repr(before))
