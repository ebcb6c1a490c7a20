"""New files, their costs and places, and known costs: by hand, at each edge, against the oracle, and refused."""

import copy
import random
import unittest

from boxshift.boxes import first_wrong, shape_of
from boxshift.errors import BadFile, BadGaps, BadShape
from boxshift.layouts import cost_of, known_cost, patched, places
from tests.oracles import all_sizes, known, likely_file, new_file, starts_of, wrong_order, writes
from tests.support import attempted, boxes_in, caught, gaps_in, odd_values, random_shape, written

WHOLE = [patched, cost_of, places]
CELLS = [2, 4, 7, 8, 3, 4, 0, 0, 4, 3, 2]
SHAPE = (("data", (7, 8, 9, 9)), ("table", ((0, 0),)))
EMPTY = ("data", ())
DEEP = (("group", (("data", (7,)), ("group", (("table", ((1, 0),)),)))), ("data", (9,)))


class Layouts(unittest.TestCase):
    def check(self, cells, shape, gaps, row, cost, begins):
        for before in [list(cells), tuple(cells)]:
            for sizes in [list(gaps), tuple(gaps)]:
                self.assertEqual(repr(patched(before, shape, sizes)), repr(tuple(row)))
                self.assertEqual(repr(cost_of(before, shape, sizes)), repr(cost))
                self.assertEqual(repr(places(before, shape, sizes)), repr(begins))
                self.assertEqual(repr(known_cost(before, shape, sizes)), repr(cost))

    def check_known(self, cells, shape, gaps, costs):
        """The known costs for no size, for the first one, and so on."""
        found = [known_cost(cells, shape, gaps[:many]) for many in range(len(gaps) + 1)]
        self.assertEqual(repr(found), repr(costs))

    def check_gaps_refused(self, shape, gaps, actions=(*WHOLE, known_cost)):
        for action in actions:
            self.assertIsNotNone(caught(BadGaps, action, [], shape, gaps), (action, gaps))


class ExampleTest(Layouts):
    def test_word_for_word(self):
        cells, shape = [2, 4, 7, 8, 3, 4, 0, 0, 4, 3, 2], (('data', (7, 8, 9, 9)), ('table', ((0, 0),)))
        known = [known_cost(cells, shape, gaps) for gaps in [[], [0], [2], [0, 0], [0, 2]]]
        group = (('table', ((0, 0),)), ('group', (('data', (5,)),)))
        more = [known_cost([], group, (0,) * many) for many in range(6)]
        found = [patched(cells, shape, [0, 2, 0]), cost_of(cells, shape, (0, 0, 0)), known, places(cells, shape, [3, 2, 0]), patched(cells, shape, [0, 0, 5]), more]
        told_there = "[(2, 6, 7, 8, 9, 9, 3, 2, 4, 3, 2), 6, [0, 3, 8, 6, 5], [3, 11], (2, 6, 7, 8, 9, 9, 4, 3, 2, 3, 5, 0, 0, 0), [0, 2, 3, 7, 8, 8]]"
        self.assertEqual(repr(found), told_there)


class NewFileTest(Layouts):
    def test_the_empty_file(self):
        self.check([], SHAPE, [0, 0, 0], [2, 6, 7, 8, 9, 9, 4, 3, 2], 9, [0, 6])
        self.check([], (EMPTY,), [2, 3], [3, 2, 2, 2, 3, 3, 0], 7, [2])

    def test_the_same_file_costs_nothing(self):
        self.check(CELLS, shape_of(CELLS), [0, 4, 0], CELLS, 0, [0, 8])
        deep = [1, 10, 2, 3, 7, 1, 5, 4, 3, 12, 2, 3, 9]
        self.check(deep, DEEP, [0] * 8, deep, 0, [0, 2, 5, 7, 10])

    def test_empty_data_tables_and_groups(self):
        shape = (EMPTY, ("table", ()), ("group", ()))
        self.check([], shape, [0] * 5, [2, 2, 4, 2, 1, 2], 6, [0, 2, 4])
        self.check([], shape, [0, 0, 0, 2, 0], [2, 2, 4, 2, 1, 4, 3, 2], 8, [0, 2, 4])
        self.check([], shape, [0, 0, 0, 0, 2], [2, 2, 4, 2, 1, 2, 3, 2], 8, [0, 2, 4])

    def test_all_gaps_at_once(self):
        shape = (("group", (("data", (7,)), ("group", (("table", ((0, 0),)),)))),)
        row = [3, 2, 1, 24, 3, 3, 0, 2, 3, 7, 3, 2, 1, 10, 3, 3, 0, 4, 3, 9, 3, 2, 3, 4, 0, 0, 3, 2]
        self.check([], shape, [2, 3, 2, 3, 2, 4, 2], row, 28, [2, 7, 12, 17])

    def test_gaps_in_the_order_in_which_they_stand(self):
        for gap in range(8):
            sizes = [0] * 8
            sizes[gap] = 2
            row = [1, 10, 2, 3, 7, 1, 5, 4, 3, 12, 2, 3, 9]
            at = [0, 2, 5, 7, 10, 10, 10, 13][gap]
            row[at:at] = [3, 2]
            begins = [begin + 2 * (begin >= at) for begin in [0, 2, 5, 7, 10]]
            row[begins[0] + 1] += 2 * (gap in [1, 2, 3, 4, 5])
            row[begins[2] + 1] += 2 * (gap in [3, 4])
            row[begins[3] + 2] = begins[4] + 2
            self.check([], DEEP, sizes, row, 15, begins)

    def test_cells_in_free_boxes_stay_as_they_are(self):
        before = [2, 8, 11, 12, 13, 14, 15, 16]
        self.check(before, (EMPTY,), [4, 0], [3, 4, 11, 12, 2, 2], 4, [4])
        self.check(before, (EMPTY,), [0, 6], [2, 2, 3, 6, 13, 14, 15, 16], 3, [0])

    def test_cells_in_free_boxes_behind_the_end_are_0_and_cost(self):
        before = [2, 4, 11, 12]
        self.check(before, (EMPTY,), [0, 7], [2, 2, 3, 7, 0, 0, 0, 0, 0], 8, [0])
        self.check(before, (EMPTY,), [5, 0], [3, 5, 11, 12, 0, 2, 2], 5, [5])

    def test_zeros_that_stand_there_cost_nothing(self):
        self.check([3, 5, 0, 0, 0], (("data", (0, 0, 0)),), [0, 0], [2, 5, 0, 0, 0], 1, [0])

    def test_a_file_that_becomes_shorter(self):
        self.check([2, 2] * 15, (EMPTY,), [0, 0], [2, 2], 0, [0])
        self.check(CELLS, (("data", (7,)),), [0, 0], [2, 3, 7], 1, [0])

    def test_entries_of_data_before_and_after_them(self):
        shape = (("table", ((1, 1), (0, 0))), ("data", (5,)), ("data", (6, 7)), ("table", ((0, 0),)))
        row = [4, 4, 10, 6, 2, 3, 5, 2, 4, 6, 7, 4, 3, 6]
        self.check([], shape, [0] * 5, row, 14, [0, 4, 7, 11])
        row = [4, 4, 13, 6, 2, 3, 5, 3, 3, 0, 2, 4, 6, 7, 4, 3, 6]
        self.check([], shape, [0, 0, 3, 0, 0], row, 17, [0, 4, 10, 14])

    def test_six_boxes(self):
        self.check([], (EMPTY,) * 6, [2] * 7, [3, 2] + [2, 2, 3, 2] * 6, 26, [2, 6, 10, 14, 18, 22])
        self.check([], (("group", ()),) * 6, [0] * 13, [1, 2] * 6, 12, [0, 2, 4, 6, 8, 10])

    def test_thirty_cells(self):
        full = (("data", (0,) * 6),) * 3 + (("data", (0,) * 4),)
        row = [2, 8, 0, 0, 0, 0, 0, 0] * 3 + [2, 6, 0, 0, 0, 0]
        self.check([], full, [0] * 5, row, 30, [0, 8, 16, 24])
        self.check([2, 30] + [0] * 28, full, [0] * 5, row, 7, [0, 8, 16, 24])
        self.check([], (EMPTY,), [0, 28], [2, 2, 3, 28] + [0] * 26, 30, [0])
        self.check([3, 30] + [99] * 28, (EMPTY,), [28, 0], [3, 28] + [99] * 26 + [2, 2], 3, [28])


class KnownCostTest(Layouts):
    def test_nothing_is_known_before_the_first_gap(self):
        self.check_known([], (EMPTY,), [0, 0], [0, 2, 2])
        self.check_known([], (EMPTY,), [3, 2], [0, 5, 7])

    def test_the_length_of_a_group_is_known_at_its_end(self):
        self.check_known([], (("group", ()),), [0, 0, 0], [0, 1, 2, 2])
        self.check_known([], DEEP, [0] * 8, [0, 1, 4, 5, 7, 8, 9, 13, 13])
        self.check_known([1, 4, 2, 2], (("group", (("group", ()),)),), [0] * 5, [0, 0, 1, 1, 1, 1])
        self.check_known([1, 2, 2, 2], (("group", (("group", ()),)),), [0] * 5, [0, 0, 1, 1, 2, 2])

    def test_entries_are_known_when_their_targets_are(self):
        shape = (("table", ((0, 0), (1, 0))), ("data", (5,)), ("data", (6,)))
        self.check_known([], shape, [0] * 4, [0, 2, 6, 10, 10])
        before = [4, 4, 6, 9, 2, 3, 5, 2, 3, 6]
        self.check_known(before, shape, [0] * 4, [0] * 5)
        self.check_known(before, shape, [0, 2, 0, 0], [0, 0, 6, 10, 10])

    def test_an_entry_of_data_before_it_is_known_at_once(self):
        self.check_known([], SHAPE, [0, 0, 0], [0, 6, 9, 9])

    def test_known_cells_that_stand_there(self):
        self.check_known(CELLS, SHAPE, [0, 2, 0], [0, 3, 5, 5])
        self.check_known(CELLS, shape_of(CELLS), [0, 4, 0], [0, 0, 0, 0])

    def test_a_free_box_in_a_known_gap_is_known(self):
        self.check_known([2, 3, 9, 3, 2], (EMPTY,), [3, 2], [0, 2, 4])
        self.check_known([3, 3, 9, 3, 2], (EMPTY,), [3, 2], [0, 1, 3])


class RandomTest(Layouts):
    def test_against_the_oracle(self):
        rng = random.Random(6)
        for _ in range(3000):
            shape = random_shape(rng)
            cells = likely_file(rng, shape)
            spare = 30 - len(written(shape))
            gaps = [rng.choice([0, 0, 2, 3, 5]) for _ in range(gaps_in(shape))]
            while sum(gaps) > spare:
                gaps[rng.randrange(len(gaps))] = 0
            row = new_file(cells, shape, gaps)
            self.check(cells, shape, gaps, row, writes(cells, row), [at for at, kind, _ in starts_of(row) if kind != 3])
            self.check_known(cells, shape, gaps, [known(cells, shape, gaps[:many]) for many in range(len(gaps) + 1)])
            self.assertIsNone(first_wrong(row))
            self.assertEqual(shape_of(row), shape)
            self.assertEqual(len(places(cells, shape, gaps)), len(boxes_in(shape)))

    def test_known_costs_never_fall(self):
        rng = random.Random(7)
        for _ in range(40):
            shape = random_shape(rng)
            cells = likely_file(rng, shape)
            for gaps in all_sizes(gaps_in(shape), min(5, 30 - len(written(shape))))[::7]:
                costs = [known_cost(cells, shape, gaps[:many]) for many in range(len(gaps) + 1)]
                self.assertEqual(costs, sorted(costs))
                self.assertEqual(costs[0], 0)
                self.assertEqual(costs[-1], cost_of(cells, shape, gaps))


class RefusedTest(Layouts):
    def test_files(self):
        for action in [*WHOLE, known_cost]:
            for value in odd_values():
                error = caught(BadFile, action, value, SHAPE, [0, 0, 0])
                self.assertIsNotNone(error, (action, value))
                self.assertIsNone(error.place)
            for cells, place in [([2, 4, 7], 1), ((4, 3, 0), 2), ([1, 6, 1, 4, 1, 2], 4), ([3], 0)]:
                self.assertEqual(caught(BadFile, action, cells, SHAPE, [0, 0, 0]).place, place)

    def test_shapes(self):
        for action in [*WHOLE, known_cost]:
            for value in [*odd_values(), (), list(SHAPE), (("free", 2),), (EMPTY,) * 7, (("table", ((0, 0),)),)]:
                self.assertIsNotNone(caught(BadShape, action, CELLS, value, [0, 0, 0]), (action, value))

    def test_no_list_or_tuple(self):
        for value in [None, 0, 3, True, "000", b"\x00\x00\x00", {0: 0, 1: 0, 2: 0}, {}, set(), range(3),
                      iter([0, 0, 0]), object(), "", len]:
            self.check_gaps_refused(SHAPE, value)

    def test_sizes(self):
        for value in [1, -1, -2, True, False, None, "0", "2", (), (0,), [], [2], {}, 10 ** 30, -10 ** 30, 31, 99]:
            for gaps in [[value, 0, 0], (0, value, 0), [0, 0, value]]:
                self.check_gaps_refused(SHAPE, gaps)

    def test_how_many_sizes(self):
        for many in [0, 1, 2, 4, 5]:
            self.check_gaps_refused(SHAPE, [0] * many, WHOLE)
            self.check_gaps_refused(SHAPE, (0,) * many, WHOLE)
        for gaps in [[0] * 4, (0,) * 5, [0] * 100000, [2, 2, 2, 2], [0, 0, 0, None]]:
            self.check_gaps_refused(SHAPE, gaps)
        for many in range(4):
            self.assertEqual(known_cost(CELLS, SHAPE, [0] * many), known_cost(CELLS, SHAPE, (0,) * many))

    def test_wrong_sizes_among_the_first_ones(self):
        for gaps in [[1], [0, 1], [-2], [False], (0, None), [2, True]]:
            self.check_gaps_refused(SHAPE, gaps, [known_cost])

    def test_more_than_thirty_cells(self):
        self.assertEqual(len(patched([], SHAPE, [0, 21, 0])), 30)
        self.assertEqual(len(patched([], SHAPE, [7, 7, 7])), 30)
        self.assertEqual(known_cost([], SHAPE, [21]), 27)
        for gaps in [[22, 0, 0], [0, 0, 22], [7, 7, 8], [30, 0, 0], [30, 30, 30]]:
            self.check_gaps_refused(SHAPE, gaps)
        # What stands behind the first gap counts, too.
        for gaps in [[22], [2, 20], [11, 11], [22, 0]]:
            self.check_gaps_refused(SHAPE, gaps)

    def test_the_first_of_two_wrong_arguments(self):
        for action in [*WHOLE, known_cost]:
            for wrongs in [[([2], BadFile), ((), BadShape), ([1], BadGaps)],
                           [(None, BadFile), ([], BadShape), (None, BadGaps)]]:
                self.assertEqual(wrong_order(action, [CELLS, SHAPE, [0, 0, 0]], wrongs), [])

    def test_arguments_stay_as_they_are(self):
        for values in [(CELLS, SHAPE, [0, 2, 0]), (CELLS, SHAPE, [0, 1, 0]), ([2], SHAPE, [0]), (CELLS, [SHAPE], [2])]:
            for action in [*WHOLE, known_cost]:
                before = copy.deepcopy(values)
                attempted(action, *values)
                self.assertEqual(repr(values), repr(before))

    def test_returned_lists_are_new(self):
        begins = places(CELLS, SHAPE, [0, 2, 0])
        begins.append(5)
        self.assertEqual(places(CELLS, SHAPE, [0, 2, 0]), [0, 8])
