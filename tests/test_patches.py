"""Cheapest sizes and their trees: by hand, at each edge, against the oracle, changed, and refused."""

import copy
import random
import unittest

from boxshift.boxes import shape_of
from boxshift.errors import BadFile, BadRoom, BadShape
from boxshift.forms import Near
from boxshift.layouts import cost_of, known_cost
from boxshift.patches import Patch, cheapest, least_cost, room_costs
from boxshift.series import Series
from tests.oracles import (
    all_sizes, branches, first_least, is_tree, likely_file, replaced, room_range, sizes_for, whole_tree, wrong_order,
)
from tests.support import attempted, caught, gaps_in, odd_values, random_shape, written

CELLS = [2, 4, 7, 8, 3, 4, 0, 0, 4, 3, 2]
SHAPE = (("data", (7, 8, 9, 9)), ("table", ((0, 0),)))
TREE = ((None, None), None)
EMPTY = ("data", ())
ACTIONS = [cheapest, least_cost, Patch((0, 2, 0), TREE).shows]


class Patches(unittest.TestCase):
    def check_least(self, cells, shape, room, least):
        """What the functions say of a least cost that is known."""
        for before in [list(cells), tuple(cells)]:
            self.assertEqual(repr(least_cost(before, shape, room)), repr(least), (cells, shape, room))
            found = cheapest(before, shape, room)
            self.assertEqual(found.__class__, Patch)
            self.assertTrue(isinstance(found.gaps, tuple) and found.tree.__class__ in [tuple, type(None)])
            self.assertIn(found.gaps, sizes_for(shape, room))
            self.assertEqual(cost_of(before, shape, found.gaps), least)
            self.assertTrue(is_tree(cells, shape, room, least, found.tree))
            self.assertIs(found.shows(before, shape, room), True)

    def check_shown(self, gaps, tree, shown, cells=CELLS, shape=SHAPE, room=11):
        self.assertIs(Patch(gaps, tree).shows(cells, shape, room), shown, (gaps, tree))


class ExampleTest(Patches):
    def test_word_for_word(self):
        cells, shape = [2, 4, 7, 8, 3, 4, 0, 0, 4, 3, 2], (('data', (7, 8, 9, 9)), ('table', ((0, 0),)))
        found = [Patch((0, 2, 0), tree).shows(cells, shape, 11) for tree in [((None, None), None), None, (None, None)]]
        all_found = [least_cost(cells, shape, 9), least_cost(cells, shape, 11), found, cheapest(cells, shape, 12).shows(cells, shape, 12), list(room_costs(cells, shape).values())[:4]]
        self.assertEqual(repr(all_found), "[6, 5, [True, False, False], True, [6, 6, 5, 5]]")


class LeastTest(Patches):
    def test_the_empty_file(self):
        self.check_least([], SHAPE, 9, 9)
        self.check_least([], SHAPE, 17, 9)
        self.assertEqual(cheapest([], SHAPE, 17).gaps, (0, 0, 0))

    def test_nothing_to_write(self):
        self.check_least(CELLS, shape_of(CELLS), 11, 0)
        self.assertEqual(cheapest(CELLS, shape_of(CELLS), 11).gaps, (0, 4, 0))
        self.check_least(CELLS, shape_of(CELLS), 15, 0)
        self.check_least([2, 3, 5, 2, 2], (("data", (5,)),), 3, 0)

    def test_room_for_the_free_box(self):
        self.assertEqual([least_cost(CELLS, SHAPE, room) for room in range(9, 18)], [6, 6, 5, 5, 5, 5, 5, 5, 5])
        self.assertEqual([least_cost(CELLS, shape_of(CELLS), room) for room in range(7, 12)], [3, 3, 3, 3, 0])

    def test_the_fewest_cells_and_eight_more(self):
        shape = (("table", ((0, 0),)), ("data", (6, 6)))
        before = [3, 8, 1, 1, 1, 1, 1, 1, 4, 3, 13, 2, 4, 6, 6]
        self.check_least(before, shape, 7, 7)
        self.check_least(before, shape, 14, 7)
        self.check_least(before, shape, 15, 0)
        self.assertEqual(cheapest(before, shape, 15).gaps, (8, 0, 0))

    def test_no_gap_of_one_cell(self):
        before = [2, 2, 3, 2, 2, 3, 9]
        self.assertEqual(least_cost(before, (EMPTY, ("data", (9,))), 7), 0)
        self.assertEqual(least_cost(before, (EMPTY, ("data", (9,))), 6), 3)

    def test_gaps_in_groups(self):
        before = [1, 11, 3, 2, 2, 3, 5, 1, 4, 3, 2, 2, 3, 6]
        shape = (("group", (("data", (5,)), ("group", ()))), ("data", (6,)))
        self.check_least(before, shape, 14, 0)
        self.assertEqual(cheapest(before, shape, 14).gaps, (0, 2, 0, 2, 0, 0, 0))
        self.check_least(before, shape, 10, 9)

    def test_many_gaps(self):
        shape = (("group", ()),) * 6
        self.assertEqual(len(all_sizes(13, 8)), 4837)
        self.assertEqual(least_cost([1, 2] * 3 + [3, 2] + [1, 2] * 3, shape, 14), 0)
        found = cheapest([1, 4, 3, 2] * 6, shape, 20)
        self.assertEqual(cost_of([1, 4, 3, 2] * 6, shape, found.gaps), first_least([1, 4, 3, 2] * 6, shape, 20)[0])
        self.assertTrue(found.shows([1, 4, 3, 2] * 6, shape, 20))

    def test_thirty_cells(self):
        full = (("data", (0,) * 6),) * 3 + (("data", (0,) * 4),)
        self.check_least([], full, 30, 30)
        self.check_least([2, 8, 1, 1, 1, 1, 1, 1] * 3 + [2, 6, 1, 1, 1, 1], full, 30, 22)
        self.assertEqual(room_costs([], full), {30: 30})

    def test_random_files(self):
        rng = random.Random(8)
        for _ in range(150):
            shape = random_shape(rng)
            cells = likely_file(rng, shape)
            room = rng.choice([one for one in room_range(shape) if len(sizes_for(shape, one)) < 400])
            self.check_least(cells, shape, room, first_least(cells, shape, room)[0])


class RoomCostsTest(Patches):
    def test_all_rooms_ascending(self):
        told_there = "{9: 6, 10: 6, 11: 5, 12: 5, 13: 5, 14: 5, 15: 5, 16: 5, 17: 5}"
        self.assertEqual(repr(room_costs(CELLS, SHAPE)), told_there)
        self.assertEqual(repr(room_costs([], (EMPTY,))), repr({room: 2 for room in range(2, 11)}))

    def test_at_most_thirty_cells(self):
        shape = (("data", (0,) * 6),) * 3
        self.assertEqual(list(room_costs([], shape)), list(range(24, 31)))

    def test_random_files(self):
        rng = random.Random(9)
        for _ in range(60):
            shape = random_shape(rng)
            if gaps_in(shape) > 6:
                continue
            cells = likely_file(rng, shape)
            costs = room_costs(tuple(cells), shape)
            self.assertEqual(list(costs), list(room_range(shape)))
            self.assertEqual(costs, {room: first_least(cells, shape, room)[0] for room in room_range(shape)})

    def test_it_is_new(self):
        room_costs(CELLS, SHAPE).clear()
        self.assertEqual(len(room_costs(CELLS, SHAPE)), 9)


class ShowsTest(Patches):
    def test_sizes(self):
        self.check_shown((0, 2, 0), TREE, True)
        for gaps in [(0, 0, 0), (0, 0, 2), (2, 0, 0), (0, 3, 0), (0, 2), (0, 2, 0, 0), (), (0, 2, 2), (0, 1, 0),
                     (0, -2, 0), (-2, 2, 0), (-2, 4, 0), (0, 10 ** 30, 0), (0, 2, -10 ** 30), (0, 28, -26), (1, 2, -1),
                     (0, 21, 0)]:
            self.check_shown(gaps, TREE, False)

    def test_sizes_that_the_room_does_not_allow(self):
        for room, shown in [(9, False), (10, False), (11, True)]:
            trees = [None, TREE, (None,), ((None,),), (((None,),),), ((None, None), None)]
            self.assertEqual(any(Patch((0, 2, 0), tree).shows(CELLS, SHAPE, room) for tree in trees), shown)

    def test_trees(self):
        for tree, shown in [
            (((None, None), None), True), (((None, (None,)), None), True), ((((None, None), None), None), True),
            (((None, None), (None,)), True), (((None, None), ((None,),)), True),
            ((((None, None), (None,)), ((None,),)), True),
            (None, False), ((), False), ((None,), False), ((None, None), False), ((None, None, None), False),
            (((None, None), None, None), False), (((None,), None), False), (((None, None, None), None), False),
            (((), None), False), (((None, None), ()), False), (((None, ()), None), False),
            (((((None,), None), None), None), False), ((((None, None), ((),)), None), False),
            (((None, (None, None)), None), False), (((None, None), (None, None)), False),
            (((None, ((None,),)), None), False), ((None, (None, None)), False), (((((),),),), False),
        ]:
            self.check_shown((0, 2, 0), tree, shown)

    def test_a_tree_that_goes_on_up_to_the_end(self):
        self.check_shown((0, 2, 0), whole_tree(SHAPE, 2), True)
        self.check_shown((0, 2, 0), whole_tree(SHAPE, 3), False)
        self.check_shown((0, 2, 0), whole_tree(SHAPE, 2, 4), False)
        self.check_shown((0, 2, 0), whole_tree(SHAPE, 2, 2), True)
        self.check_shown((0, 2, 0), whole_tree(SHAPE, 2, 1), False)

    def test_a_deep_tree(self):
        tree = None
        for _ in range(500):
            tree = (tree,)
        self.check_shown((0, 2, 0), tree, False)
        self.check_shown((0, 2, 0), ((None, None), tree), False)

    def test_nothing_to_write_needs_no_tree(self):
        shape = shape_of(CELLS)
        self.check_shown((0, 4, 0), None, True, CELLS, shape)
        self.check_shown((0, 0, 0), None, False, CELLS, shape)
        self.check_shown((0, 4, 0), (None,) * 4, True, CELLS, shape)

    def test_sizes_that_cost_more_than_the_tree_shows(self):
        # With this tree the sizes would have to cost 5 at most.
        self.check_shown((0, 0, 0), TREE, False)
        self.check_shown((0, 0, 0), None, False)
        self.check_shown((0, 0, 0), whole_tree(SHAPE, 2), False)

    def test_another_file_shape_or_room(self):
        patch = cheapest(CELLS, SHAPE, 11)
        self.assertIs(patch.shows(tuple(CELLS), SHAPE, 11), True)
        self.assertIs(patch.shows([], SHAPE, 11), False)
        self.assertIs(patch.shows(CELLS, SHAPE, 12), False)
        self.assertIs(patch.shows(CELLS, (("data", (7, 8, 9, 9)),), 8), False)

    def test_the_current_attributes(self):
        patch = cheapest(CELLS, SHAPE, 11)
        patch.gaps = (0, 0, 0)
        self.assertIs(patch.shows(CELLS, SHAPE, 11), False)
        patch.gaps = (0, 2, 0)
        self.assertIs(patch.shows(CELLS, SHAPE, 11), True)
        patch.tree = None
        self.assertIs(patch.shows(CELLS, SHAPE, 11), False)
        patch.tree = TREE
        self.assertIs(patch.shows(CELLS, SHAPE, 11), True)

    def test_changed_trees_of_random_files(self):
        rng = random.Random(10)
        hidden = 0
        for _ in range(120):
            shape = random_shape(rng)
            cells = likely_file(rng, shape)
            room = rng.choice([one for one in room_range(shape) if len(sizes_for(shape, one)) < 150])
            found = cheapest(cells, shape, room)
            least = cost_of(cells, shape, found.gaps)
            parts = branches(found.tree)
            for path in rng.sample(parts, min(6, len(parts))):
                part = rng.choice([None, None, (), (None,), (None, None), (None,) * 3, ((None,), None)])
                tree = replaced(found.tree, path, part)
                shown = is_tree(cells, shape, room, least, tree)
                self.check_shown(found.gaps, tree, shown, cells, shape, room)
                hidden += not shown
            for gaps in rng.sample(sizes_for(shape, room), min(4, len(sizes_for(shape, room)))):
                self.check_shown(gaps, found.tree, cost_of(cells, shape, gaps) == least, cells, shape, room)
            self.check_shown(found.gaps, whole_tree(shape, room - len(written(shape))), True, cells, shape, room)
        self.assertTrue(hidden > 150, hidden)

    def test_each_part_of_a_tree_is_needed(self):
        shape = (("data", (7, 8, 9)), ("table", ((0, 2),)), ("data", (1,)))
        cells = [2, 4, 7, 8, 4, 3, 3, 2, 3, 1]
        found = cheapest(cells, shape, 14)
        for path in branches(found.tree):
            for part in [None, (), (None,) * 9]:
                self.check_shown(found.gaps, replaced(found.tree, path, part), False, cells, shape, 14)

    def test_a_known_cost_that_is_one_too_low(self):
        self.assertEqual([known_cost([], (EMPTY,), gaps) for gaps in [(), (0,), (2,)]], [0, 2, 4])
        self.check_shown((0, 0), (None,) * 2, True, [], (EMPTY,), 4)
        self.check_shown((0, 0), None, False, [], (EMPTY,), 4)


class EqualTest(Patches):
    def test_equal(self):
        self.assertTrue(Patch((0, 2, 0), TREE) == Patch((0, 2, 0), ((None, None), None)))
        self.assertFalse(Patch((0, 2, 0), TREE) != Patch((0, 2, 0), ((None, None), None)))
        for other in [Patch((0, 2, 2), TREE), Patch((0, 2, 0), None), Patch((0, 2), TREE), Patch((0, 2, 0), (TREE,))]:
            self.assertFalse(Patch((0, 2, 0), TREE) == other)
            self.assertTrue(Patch((0, 2, 0), TREE) != other)

    def test_objects_of_other_classes(self):
        patch = Patch((), {})
        for other in [Near((), {}), Series([], {}), ((), {}), None, 0]:
            self.assertFalse(patch == other)
            self.assertTrue(patch != other)

    def test_attributes(self):
        patch = Patch((0, 2), (None,))
        self.assertEqual(vars(patch), {"gaps": (0, 2), "tree": (None,)})
        self.assertEqual(sorted(vars(cheapest(CELLS, SHAPE, 11))), ["gaps", "tree"])


class RefusedTest(Patches):
    def test_files(self):
        for action in ACTIONS:
            for value in odd_values():
                self.assertIsNone(caught(BadFile, action, value, SHAPE, 11).place)
            self.assertEqual(caught(BadFile, action, [2, 4, 7], SHAPE, 11).place, 1)
        for value in odd_values():
            self.assertIsNone(caught(BadFile, room_costs, value, SHAPE).place)
        self.assertEqual(caught(BadFile, room_costs, [4, 3, 0], SHAPE).place, 2)

    def test_shapes(self):
        for value in [*odd_values(), (), [], list(SHAPE), (("free", 2),), (EMPTY,) * 7]:
            for action in ACTIONS:
                self.assertIsNotNone(caught(BadShape, action, CELLS, value, 11), (action, value))
            self.assertIsNotNone(caught(BadShape, room_costs, CELLS, value), value)

    def test_rooms(self):
        for action in ACTIONS:
            for room in [8, 18, 0, -1, 30, 31, 10 ** 30, -10 ** 30, None, True, False, "11", "", (), (11,), [11], {},
                         {11: 11}, b"", object(), len]:
                self.assertIsNotNone(caught(BadRoom, action, CELLS, SHAPE, room), (action, room))
            for room in [9, 17]:
                action(CELLS, SHAPE, room)

    def test_true_is_no_room(self):
        for action in ACTIONS:
            self.assertIsNotNone(caught(BadRoom, action, [], (EMPTY,), True))

    def test_a_room_of_more_than_thirty_cells(self):
        shape = (("data", (0,) * 6),) * 3
        for action in ACTIONS:
            action([], shape, 30)
            for room in [23, 31, 32]:
                self.assertIsNotNone(caught(BadRoom, action, [], shape, room))

    def test_a_room_of_a_large_shape(self):
        full = (("data", (0,) * 6),) * 3 + (("data", (0,) * 4),)
        for action in ACTIONS:
            action([], full, 30)
            for room in [29, 31]:
                self.assertIsNotNone(caught(BadRoom, action, [], full, room))

    def test_the_first_of_two_wrong_arguments(self):
        for action in ACTIONS:
            for wrongs in [[([2], BadFile), ((), BadShape), (8, BadRoom)],
                           [(2, BadFile), (2, BadShape), ((), BadRoom)]]:
                self.assertEqual(wrong_order(action, [CELLS, SHAPE, 11], wrongs), [])
        self.assertEqual(wrong_order(room_costs, [CELLS, SHAPE], [([2], BadFile), ((), BadShape)]), [])

    def test_arguments_stay_as_they_are(self):
        for values in [(CELLS, SHAPE, 11), (CELLS, [SHAPE], 11), ([2, 9], SHAPE, 11), (CELLS, SHAPE, [11])]:
            before = copy.deepcopy(values)
            for action in ACTIONS:
                attempted(action, *values)
            attempted(room_costs, *values[:2])
            self.assertEqual(repr(values), repr(before))

    def test_a_call_that_is_refused_changes_nothing(self):
        patch = Patch((0, 2, 0), TREE)
        attempted(patch.shows, CELLS, SHAPE, 8)
        attempted(patch.shows, [1], SHAPE, 11)
        self.assertEqual(patch, Patch((0, 2, 0), TREE))
