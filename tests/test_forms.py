"""Forms, nearest forms and their floors: by hand, at each edge, against the oracle, changed, and refused."""

import copy
import itertools
import random
import unittest

from boxshift.errors import BadFile
from boxshift.forms import Near, distance, is_form, nearest
from boxshift.patches import Patch
from boxshift.series import Series
from tests import oracles
from tests.support import attempted, caught, odd_values, random_file, wrong_place

ROW = [2, 4, 7, 8, 9]
FORM = (2, 5, 7, 8, 9)
FLOORS = {(0, 5, 0): 1, (4, 5, 0): 1}
ACTIONS = [is_form, nearest, distance, Near(FORM, FLOORS).shows]


def random_row(rng, most):
    return [rng.choice([0, 1, 1, 2, 2, 2, 3, 4, 4, 5, 6, 8, 99]) for _ in range(rng.randint(0, most))]


def spoiled(rng, cells):
    """Cells of which some are others."""
    cells = list(cells)
    for _ in range(rng.randint(0, 4)):
        if cells:
            cells[rng.randrange(len(cells))] = rng.choice([0, 1, 2, 3, 4, 5, 6, 99])
    return cells


class Forms(unittest.TestCase):
    def check_near(self, cells, apart):
        """What the functions say of a row of cells whose nearest form differs at so many places."""
        for row in [list(cells), tuple(cells)]:
            self.assertEqual(repr(distance(row)), repr(apart), cells)
            self.assertIs(is_form(row), apart == 0)
            found = nearest(row)
            if apart is None:
                self.assertIsNone(found)
                continue
            self.assertEqual(found.__class__, Near)
            self.assertEqual((found.cells.__class__, found.floors.__class__), (tuple, dict))
            self.assertTrue(oracles.are_near(cells, found.cells, found.floors), (cells, found.cells, found.floors))
            self.assertEqual(oracles.writes(cells, found.cells), apart)
            self.assertIs(found.shows(row), True)

    def check_shown(self, cells, form, floors, shown):
        self.assertIs(Near(form, floors).shows(cells), shown, (cells, form, floors))


class ExampleTest(Forms):
    def test_word_for_word(self):
        rows = [[2, 4, 7, 8, 9], [7], [], [1, 6, 2, 3, 5, 2, 2, 2], [4, 3, 99]]
        found = nearest([2, 4, 7, 8, 9])
        all_found = [[distance(row) for row in rows], is_form(rows[4]), found.shows(rows[0]), Near((2, 5, 7, 8, 9), {}).shows(rows[0]), Near((2, 5, 7, 8, 9), {(0, 5, 0): 1, (4, 5, 0): 1}).shows(rows[0]), nearest([7])]
        self.assertEqual(repr(all_found), "[[1, None, 0, 1, 0], True, True, False, True, None]")


class IsFormTest(Forms):
    def test_entries_can_be_any(self):
        for entry in [0, 1, 2, 5, 99]:
            self.assertIs(is_form([4, 3, entry]), True)
            self.assertIs(is_form((2, 3, 7, 4, 4, entry, 2)), True)

    def test_wrong_boxes(self):
        for row in [[7], [1], [2], [0, 2], [5, 2], [2, 1], [2, 0], [2, 3], [2, 2, 2], [1, 2, 5, 2], [1, 6, 1, 4, 1, 2],
                    [1, 3, 2], [1, 4, 2, 3], [4, 3, 99, 4, 4, 0]]:
            self.assertIs(is_form(row), False, row)

    def test_groups(self):
        for row in [[1, 2], [1, 4, 1, 2], [1, 6, 1, 4, 4, 2], [1, 6, 1, 4, 3, 2, 1, 2], [1, 4, 1, 2] * 7]:
            self.assertIs(is_form(row), True, row)

    def test_the_empty_row_and_thirty_cells(self):
        self.assertIs(is_form([]), True)
        self.assertIs(is_form(()), True)
        self.assertIs(is_form([4, 30] + [99] * 28), True)
        self.assertIs(is_form([4, 29] + [99] * 28), False)
        self.assertIs(is_form([2, 2] * 15), True)

    def test_all_short_rows(self):
        for many in range(5):
            for row in itertools.product(range(6), repeat=many):
                self.assertIs(is_form(row), oracles.is_form(row), row)

    def test_files_are_forms(self):
        rng = random.Random(11)
        for _ in range(500):
            row = spoiled(rng, random_file(rng))
            self.assertIs(is_form(row), oracles.is_form(row))
            if wrong_place(row) is None:
                self.assertIs(is_form(row), True)


class NearestTest(Forms):
    def test_the_empty_row(self):
        self.check_near([], 0)
        self.assertEqual(nearest([]).cells, ())

    def test_a_row_of_one_cell(self):
        for cell in [0, 1, 2, 3, 4, 7, 99]:
            self.check_near([cell], None)

    def test_two_cells(self):
        self.check_near([0, 0], 2)
        self.check_near([2, 0], 1)
        self.check_near([0, 2], 1)
        self.check_near([1, 2], 0)

    def test_forms(self):
        for row in [[1, 6, 1, 4, 3, 2, 1, 2], [4, 3, 99], [2, 2] * 15, [4, 30] + [99] * 28]:
            self.check_near(row, 0)
            self.assertEqual(nearest(row).cells, tuple(row))

    def test_a_group_in_two_groups(self):
        self.check_near([1, 6, 1, 4, 1, 2], 1)
        self.check_near([1, 6, 1, 4, 3, 2], 0)
        self.check_near([1, 8, 1, 6, 1, 4, 1, 2], 1)
        self.check_near([1, 8, 1, 6, 1, 2, 1, 2], 1)

    def test_nothing_fits(self):
        self.check_near([0] * 30, 2)
        self.check_near([99] * 29, 2)
        self.check_near([7, 7, 7], 2)

    def test_a_group_that_is_one_cell_too_long(self):
        self.check_near([1, 6, 2, 3, 5, 2, 2, 2], 1)
        self.check_near([1, 9, 2, 3, 5, 2, 2, 2], 2)

    def test_all_short_rows(self):
        for many in range(4):
            for row in itertools.product([0, 1, 2, 3, 4], repeat=many):
                self.check_near(row, oracles.least_apart(row))

    def test_random_rows(self):
        rng = random.Random(12)
        for _ in range(60):
            row = random_row(rng, 5)
            self.check_near(row, oracles.least_apart(row))

    def test_long_rows(self):
        rng = random.Random(13)
        for number in range(60):
            row = random_row(rng, 30) if number % 2 else spoiled(rng, random_file(rng))
            if len(row) != 1:
                self.check_near(row, oracles.least_apart_by_boxes(row, 0, len(row), 0, {}))

    def test_the_only_nearest_form(self):
        self.assertEqual(nearest(ROW).cells, FORM)
        self.assertEqual(nearest([2, 3, 7, 4, 2, 8, 9, 9]).cells, (2, 3, 7, 4, 5, 8, 9, 9))


class ShowsTest(Forms):
    def test_forms(self):
        self.check_shown(ROW, FORM, FLOORS, True)
        for form in [(2, 4, 7, 8, 9), (2, 5, 7, 8), (2, 5, 7, 8, 9, 9), (), (2, 6, 7, 8, 9), (5, 5, 7, 8, 9),
                     (2, 3, 7, 8, 9), (3, 5, 7, 8, 9), (2, 5, 7, 8, 0), (2, 5, 7, 8, 100), (2, 5, 7, 8, -1),
                     (2, 5, 7, 8, 10 ** 30), (2, 5, 7, 8, 9, 2, 2)]:
            self.check_shown(ROW, form, FLOORS, False)

    def test_cells_that_are_none(self):
        self.check_shown([4, 3, 99], (4, 3, 99), {}, True)
        for cell in [100, -1, 10 ** 30]:
            self.check_shown([4, 3, 99], (4, 3, cell), {(0, 3, 0): 1, (2, 3, 0): 1}, False)

    def test_a_form_whose_entries_are_wrong(self):
        self.check_shown([4, 3, 0], (4, 3, 0), {}, True)

    def test_no_difference_needs_no_floor(self):
        for row in [[], [2, 2], [4, 3, 99], [1, 6, 1, 4, 3, 2]]:
            self.check_shown(row, tuple(row), {}, True)
            self.check_shown(row, tuple(row), {(0, len(row), 0): 0}, True)
            self.check_shown(row, tuple(row), {(0, len(row), 0): -3}, True)
            self.check_shown(row, tuple(row), {(0, len(row), 0): 1}, False)

    def test_a_floor_for_a_form_that_differs(self):
        for floors, shown in [
            ({}, False), ({(0, 5, 0): 1}, False), ({(4, 5, 0): 1}, False), ({(0, 5, 0): 0, (4, 5, 0): 1}, False),
            ({(0, 5, 0): 2, (4, 5, 0): 2}, False), ({(4, 5, 0): 1, (0, 5, 0): 1}, True),
            ({(0, 5, 0): 1, (4, 5, 0): 99}, True), ({(0, 5, 0): 1, (4, 5, 0): 10 ** 30}, True),
            ({(0, 5, 0): 1, (4, 5, 0): 0}, False), ({(0, 5, 0): 1, (4, 5, 0): -1}, False),
            ({(0, 5, 1): 1, (4, 5, 0): 1}, False), ({(0, 5, 0): 1, (4, 5, 1): 1}, False),
            ({(0, 5, 0): 1, (4, 5, 0): 1, (4, 5, 1): 1, (2, 3, 2): 7}, True),
            ({(0, 5, 0): 1, (4, 5, 0): 1, (3, 4, 0): 1}, True), ({(0, 4, 0): 1, (4, 5, 0): 1}, False),
        ]:
            self.check_shown(ROW, FORM, floors, shown)

    def test_begin_and_end_alike(self):
        for floor, shown in [(0, True), (-1, True), (1, False), (99, False)]:
            for triple in [(5, 5, 0), (0, 0, 0), (3, 3, 2)]:
                self.check_shown(ROW, FORM, {**FLOORS, triple: floor}, shown)
            self.check_shown([], (), {(0, 0, 0): floor}, shown)

    def test_a_floor_that_is_lower_than_0_counts_as_0(self):
        # Two cells are one box, behind which there is nothing.
        self.check_shown([0, 0], (2, 2), {(0, 2, 0): 2}, True)
        self.check_shown([0, 0], (2, 2), {(0, 2, 0): 2, (2, 2, 0): -1}, True)
        self.check_shown([0, 0], (2, 2), {(0, 2, 0): 2, (2, 2, 0): -1, (2, 2, 1): -5}, True)
        self.check_shown([0, 0], (2, 2), {(0, 2, 0): 3}, False)

    def test_floors_are_tested_each(self):
        # Each of these floors is as high as it can be.
        row = [0, 0, 0, 0]
        floors = {(0, 4, 0): 2, (2, 4, 0): 2, (3, 4, 0): 2, (1, 4, 0): 2, (2, 3, 1): 9}
        self.check_shown(row, (2, 4, 0, 0), floors, True)
        for triple in [(0, 4, 0), (2, 4, 0), (1, 4, 0)]:
            self.check_shown(row, (2, 4, 0, 0), {**floors, triple: 3}, False)
        self.check_shown(row, (2, 4, 0, 0), {**floors, (2, 4, 2): 3}, False)
        self.check_shown(row, (2, 4, 0, 0), {**floors, (0, 3, 1): 3, (2, 3, 2): 3}, False)

    def test_no_group_at_depth_2(self):
        row = [1, 4, 1, 2]
        floors = {(0, 4, 2): 1, (2, 4, 2): 1, (3, 4, 2): 1}
        self.check_shown(row, tuple(row), floors, True)
        self.check_shown(row, tuple(row), {**floors, (0, 4, 2): 2, (2, 4, 2): 2, (3, 4, 2): 2}, False)
        for depth in [0, 1]:
            self.check_shown(row, tuple(row), {(0, 4, depth): 1, (2, 4, depth): 1, (3, 4, depth): 1}, False)
            self.check_shown(row, tuple(row), {(2, 4, depth): 1}, False)

    def test_what_is_in_a_group_counts_one_deeper(self):
        row = [1, 6, 2, 3, 5, 2, 2, 2]
        found = nearest(row)
        needed = [triple for triple in found.floors if triple[2] == 1 and triple[:2] == (2, 6)]
        self.assertEqual(needed, [(2, 6, 1)])
        floors = {triple: floor for triple, floor in found.floors.items() if triple != (2, 6, 1)}
        self.check_shown(row, found.cells, floors, False)
        self.check_shown(row, found.cells, {**floors, (2, 6, 2): 1}, False)

    def test_triples_beyond_the_limits(self):
        for triple in [(0, 6, 0), (5, 6, 0), (-1, 5, 0), (-1, 0, 0), (4, 5, 3), (4, 5, -1), (3, 2, 0), (5, 4, 0),
                       (6, 6, 0), (4, 10 ** 30, 0)]:
            for floor in [-1, 0, 1]:
                self.check_shown(ROW, FORM, {**FLOORS, triple: floor}, False)

    def test_another_row(self):
        found = nearest(ROW)
        for row, shown in [(ROW, True), (tuple(ROW), True), ([2, 4, 7, 8], False), ([2, 4, 7, 8, 8], False),
                           ([], False), ([2], False), ([2, 4, 7, 8, 9, 9], False), ([2, 4, 7, 9, 9], False)]:
            self.assertIs(found.shows(row), shown, row)
        self.check_shown([7], (7,), {}, False)
        self.check_shown([7], (), {}, False)

    def test_the_current_attributes(self):
        near = Near(FORM, FLOORS)
        near.floors[(0, 5, 0)] = 2
        self.assertIs(near.shows(ROW), False)
        near.floors = {(4, 5, 0): 1, (0, 5, 0): 1}
        self.assertIs(near.shows(ROW), True)
        near.cells = (2, 6, 7, 8, 9)
        self.assertIs(near.shows(ROW), False)

    def test_changed_floors_of_random_rows(self):
        rng = random.Random(14)
        hidden = 0
        for number in range(200):
            row = random_row(rng, 12) if number % 2 else spoiled(rng, random_file(rng))[:14]
            found = nearest(row)
            if found is None:
                continue
            for _ in range(5):
                form = spoiled(rng, found.cells) if rng.random() < 0.1 else found.cells
                floors = dict(found.floors)
                for triple in rng.sample(list(floors), min(len(floors), rng.randint(0, 2))):
                    floors[triple] += rng.choice([-2, -1, 1])
                if floors and rng.random() < 0.3:
                    del floors[rng.choice(list(floors))]
                if rng.random() < 0.2:
                    begin = rng.randint(0, len(row))
                    floors[(begin, rng.randint(begin, len(row)), rng.randint(0, 2))] = rng.randint(-1, 2)
                shown = oracles.are_near(row, tuple(form), floors)
                self.check_shown(row, tuple(form), floors, shown)
                hidden += not shown
        self.assertTrue(200 < hidden < 900, hidden)

    def test_floors_in_any_order(self):
        row = [1, 6, 2, 3, 5, 2, 2, 2]
        found = nearest(row)
        triples = list(found.floors)
        random.Random(15).shuffle(triples)
        self.check_shown(row, found.cells, {triple: found.floors[triple] for triple in triples}, True)

    def test_forms_that_are_not_nearest(self):
        rng = random.Random(16)
        seen = 0
        while seen < 100:
            row = random_row(rng, 9)
            form = tuple(spoiled(rng, row))
            if len(row) > 1 and oracles.is_form(form):
                seen += 1
                found = nearest(row)
                self.check_shown(row, form, found.floors, oracles.writes(row, form) == oracles.writes(row, found.cells))


class EqualTest(Forms):
    def test_equal(self):
        self.assertTrue(Near(FORM, FLOORS) == Near(FORM, {(4, 5, 0): 1, (0, 5, 0): 1}))
        self.assertFalse(Near(FORM, FLOORS) != Near(FORM, {(4, 5, 0): 1, (0, 5, 0): 1}))
        more = {**FLOORS, (4, 5, 0): 2}
        for other in [Near((2, 5, 7, 8, 8), FLOORS), Near(FORM, {}), Near(FORM, more), Near((), {})]:
            self.assertFalse(Near(FORM, FLOORS) == other)
            self.assertTrue(Near(FORM, FLOORS) != other)

    def test_objects_of_other_classes(self):
        near = Near((), {})
        for other in [Patch((), {}), Series([], {}), ((), {}), None, 0]:
            self.assertFalse(near == other)
            self.assertTrue(near != other)

    def test_attributes(self):
        self.assertEqual(vars(Near(FORM, FLOORS)), {"cells": FORM, "floors": FLOORS})
        self.assertEqual(sorted(vars(nearest(ROW))), ["cells", "floors"])

    def test_the_dict_is_copied(self):
        floors = dict(FLOORS)
        near = Near(FORM, floors)
        floors.clear()
        self.assertEqual(near.floors, FLOORS)
        near.floors[(0, 0, 0)] = 1
        self.assertEqual(floors, {})

    def test_each_result_is_new(self):
        nearest(ROW).floors.clear()
        self.assertTrue(nearest(ROW).shows(ROW))


class RefusedTest(Forms):
    def test_rows(self):
        for action in ACTIONS:
            for value in [*odd_values(), [2] * 31, (2, 2) * 16, [100, 2], [2, -1]]:
                error = caught(BadFile, action, value)
                self.assertIsNotNone(error, (action, value))
                self.assertIsNone(error.place)

    def test_rows_that_are_no_files(self):
        for action in ACTIONS:
            for row in [[7], [2, 9], [4, 3, 99], [2] * 30, []]:
                action(row)

    def test_arguments_stay_as_they_are(self):
        for row in [list(ROW), [7], [2, 100], [2] * 31, [None]]:
            before = copy.deepcopy(row)
            for action in ACTIONS:
                attempted(action, row)
                self.assertEqual(repr(row), repr(before))

    def test_a_form_does_not_follow_the_argument(self):
        row = [2, 2]
        found = nearest(row)
        row[0] = 3
        self.assertEqual(found.cells, (2, 2))
