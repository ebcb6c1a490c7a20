"""Series, their floors and the limit of steps: by hand, at each edge, against the oracle, changed, and refused."""

import copy
import itertools
import random
import unittest

from boxshift.boxes import shape_of
from boxshift.errors import BadFile, BadRoom, BadShapes, TooLarge
from boxshift.forms import Near
from boxshift.layouts import cost_of, patched
from boxshift.patches import Patch, least_cost
from boxshift.series import Series, one_by_one, series, series_cost
from tests import oracles
from tests.support import attempted, caught, gaps_in, is_shape, odd_values, random_shape

CELLS = [2, 4, 7, 8, 3, 4, 0, 0, 4, 3, 2]
START = (0, tuple(CELLS))
LONG = (("data", (7, 8, 9, 9)), ("table", ((0, 0),)))
SHORT = (("data", (7, 8)), ("table", ((0, 0),)))
EMPTY = ("data", ())
TABLE = ("table", ())
GROUP = ("group", ())
ACTIONS = [series, series_cost, one_by_one, Series([(0, 2, 0), (0, 4, 0)], {}).shows]
# A file, shapes, a room and the number of their steps.
AT_LIMIT = [
    ([3, 2], [(GROUP,), (TABLE, TABLE), (GROUP, EMPTY, GROUP)], 9, 3000),
    ([], [(("data", (3, 1, 3, 2, 2)), ("table", ((0, 3), (0, 0), (0, 3), (0, 2)))),
          (("data", (1, 4)), ("table", ((0, 0), (0, 0), (0, 1)))),
          (("group", (("data", (1, 4)), ("table", ((0, 1),)))), TABLE)], 15, 3000),
    ([3, 3, 0, 4, 2], [(TABLE, TABLE), (EMPTY,), (("data", (5, 1, 99, 2, 99)),)], 10, 3000),
    ([], [(GROUP, TABLE, TABLE), (TABLE,), (TABLE,)], 9, 3001),
    ([], [(("data", (7, 4, 4, 0, 3, 99)),), (("data", (0,)), ("table", ((0, 0), (0, 0), (0, 0)))),
          (GROUP, ("data", (7, 1, 4, 5, 1)), ("data", (3, 1, 2, 7)))], 16, 3001),
    ([4, 2], [(("data", (2,)),), (("group", (TABLE, TABLE)),), (TABLE, TABLE)], 10, 3001),
]


def random_case(rng, most):
    """A file, shapes and a room for them, with at most so many steps."""
    while True:
        shapes = [random_shape(rng)]
        while len(shapes) < 3 and rng.random() < 0.7:
            shapes.append(rng.choice([oracles.altered(rng, shapes[-1]), random_shape(rng)]))
        if not all(is_shape(shape) and gaps_in(shape) < 8 for shape in shapes):
            continue
        rooms = [room for room in range(31) if all(room in oracles.room_range(shape) for shape in shapes)]
        rooms = [room for room in rooms if most_steps(shapes, room) <= most]
        if rooms:
            return oracles.likely_file(rng, shapes[0]), shapes, rng.choice(rooms[-3:])


def most_steps(shapes, room):
    steps, spots = 0, 1
    for shape in shapes:
        spots *= len(oracles.sizes_for(shape, room))
        steps += spots
    return steps


class Cases(unittest.TestCase):
    def check_series(self, cells, shapes, room, least):
        """What the functions say of a series whose cost is known."""
        for before, row in [(list(cells), list(shapes)), (tuple(cells), tuple(shapes))]:
            self.assertEqual(repr(series_cost(before, row, room)), repr(least), (cells, shapes, room))
            found = series(before, row, room)
            self.assertEqual(found.__class__, Series)
            self.assertEqual((found.sizes.__class__, found.floors.__class__), (list, dict))
            self.assertTrue(all(isinstance(gaps, tuple) for gaps in found.sizes))
            self.assertTrue(oracles.are_series(cells, shapes, room, found.sizes, found.floors))
            self.assertEqual(sum(self.costs(cells, shapes, found.sizes)), least)
            self.assertIs(found.shows(before, row, room), True)

    def costs(self, cells, shapes, sizes):
        costs = []
        for shape, gaps in zip(shapes, sizes, strict=True):
            costs.append(cost_of(cells, shape, gaps))
            cells = patched(cells, shape, gaps)
        return costs

    def check_shown(self, sizes, floors, shown, cells=CELLS, shapes=(LONG, SHORT), room=11):
        self.assertIs(Series(sizes, floors).shows(cells, shapes, room), shown, (sizes, floors))


class ExampleTest(Cases):
    def test_word_for_word(self):
        cells, long, short = [2, 4, 7, 8, 3, 4, 0, 0, 4, 3, 2], (('data', (7, 8, 9, 9)), ('table', ((0, 0),))), (('data', (7, 8)), ('table', ((0, 0),)))
        found = [series_cost(cells, [long, short], 11), one_by_one(cells, [long, short], 11), series(cells, [long, short], 11).shows(cells, (long, short), 11), Series([(0, 2, 0), (0, 4, 0)], {}).shows(cells, [long, short], 11)]
        self.assertEqual(repr(found), "[8, [5, 3], True, False]")


class LeastTest(Cases):
    def test_one_shape(self):
        for room in range(9, 18):
            self.check_series(CELLS, [LONG], room, least_cost(CELLS, LONG, room))
        self.check_series([], [(EMPTY,)], 2, 2)
        self.check_series([], [(EMPTY,)], 10, 2)

    def test_two_and_three_shapes(self):
        self.check_series(CELLS, [LONG, SHORT], 11, 8)
        self.check_series(CELLS, [SHORT, LONG], 11, 5)
        self.check_series(CELLS, [SHORT, LONG, SHORT], 11, 8)
        self.check_series([], [LONG, SHORT, LONG], 9, 15)

    def test_nothing_to_write(self):
        shape = shape_of(CELLS)
        self.check_series(CELLS, [shape] * 3, 11, 0)
        self.assertTrue(Series([(0, 4, 0)] * 3, {}).shows(CELLS, [shape] * 3, 11))

    def test_thirty_cells(self):
        full = (("data", (5,) * 6),) * 3 + (("data", (6,) * 4),)
        self.check_series([], [full], 30, 30)
        self.check_series([], [full] * 3, 30, 30)
        self.check_series([3, 30] + [9] * 28, [full, full], 30, 30)

    def test_cells_that_a_free_box_keeps_for_the_next_shape(self):
        cells, shapes = [2, 8, 5, 8, 8, 9, 9, 9], [(("data", (5,)),), (("data", (5, 8, 8, 9, 9, 9)),)]
        self.check_series(cells, shapes, 8, 6)
        self.assertEqual(series(cells, shapes, 8).sizes, [(0, 5), (0, 0)])
        self.assertEqual(one_by_one(cells, shapes, 8), [1, 6])

    def test_the_fewest_cells_and_eight_more(self):
        shapes = [(("data", (1,)),), (("data", (1, 2)),)]
        self.check_series([], shapes, 4, 5)
        self.check_series([], shapes, 11, 5)
        for action in ACTIONS:
            for room in [3, 12]:
                self.assertIsNotNone(caught(BadRoom, action, [], shapes, room))

    def test_random_series(self):
        rng = random.Random(19)
        for _ in range(120):
            cells, shapes, room = random_case(rng, 250)
            steps = oracles.steps_in_all(cells, shapes, room)
            self.check_series(cells, shapes, room, oracles.least_from((0, tuple(cells)), steps))


class OneByOneTest(Cases):
    def test_one_shape(self):
        self.assertEqual(repr(one_by_one(CELLS, [LONG], 11)), "[5]")
        self.assertEqual(repr(one_by_one((), ((EMPTY,),), 10)), "[2]")

    def test_the_first_of_all_sizes_that_cost_least(self):
        # (0, 0, 0), not (2, 0, 0) or another one, which would leave other cells for the shape after it.
        rng = random.Random(20)
        several = 0
        for _ in range(150):
            cells, shapes, room = random_case(rng, 2000)
            costs, file = [], tuple(cells)
            for shape in shapes:
                cost, gaps = oracles.first_least(file, shape, room)
                costs.append(cost)
                file = oracles.new_file(file, shape, gaps)
            self.assertEqual(one_by_one(cells, shapes, room), costs)
            last = {tuple(self.costs(cells, shapes, sizes)) for sizes in self.greedy(cells, shapes, room)}
            several += len(last) > 1
        self.assertTrue(several > 2, several)

    def greedy(self, cells, shapes, room):
        """All lists of sizes each of which costs least for its shape alone."""
        if not shapes:
            return [[]]
        sizes = oracles.sizes_for(shapes[0], room)
        costs = [cost_of(cells, shapes[0], gaps) for gaps in sizes]
        best = [gaps for gaps, cost in zip(sizes, costs) if cost == min(costs)]
        return [[gaps, *rest] for gaps in best[:5]
                for rest in self.greedy(patched(cells, shapes[0], gaps), shapes[1:], room)][:30]

    def test_more_steps_than_a_series_may_have(self):
        self.assertEqual(one_by_one([], [(EMPTY,) * 6] * 3, 20), [12, 0, 0])
        self.assertEqual(one_by_one([1, 2] * 6, [(GROUP,) * 6] * 3, 20), [0, 0, 0])

    def test_it_is_new(self):
        one_by_one(CELLS, [LONG], 11).clear()
        self.assertEqual(one_by_one(CELLS, [LONG], 11), [5])


class StepsTest(Cases):
    def test_at_the_limit_and_beyond_it(self):
        for cells, shapes, room, many in AT_LIMIT:
            steps = oracles.steps_in_all(cells, shapes, room)
            self.assertEqual(sum(len(found) for found in steps.values()), many)
            if many > 3000:
                for action in [series, series_cost]:
                    self.assertIsNotNone(caught(TooLarge, action, cells, shapes, room))
                    self.assertIsNotNone(caught(TooLarge, action, tuple(cells), tuple(shapes), room))
                continue
            least = series_cost(cells, shapes, room)
            found = series(cells, shapes, room)
            self.assertEqual(sum(self.costs(cells, shapes, found.sizes)), least)
            self.assertTrue(found.shows(cells, shapes, room))
            self.assertLessEqual(least, sum(one_by_one(cells, shapes, room)))

    def test_spots_that_are_reached_by_several_steps_count_once(self):
        cells, shapes, room, _ = AT_LIMIT[0]
        self.assertGreater(most_steps(shapes, room), 3000)

    def test_one_shape_with_many_gaps(self):
        self.assertEqual(len(oracles.all_sizes(13, 7)), 2003)
        self.assertEqual(series_cost([], [(GROUP,) * 6], 19), 12)
        self.assertEqual(len(oracles.all_sizes(13, 8)), 4837)
        for action in [series, series_cost]:
            self.assertIsNotNone(caught(TooLarge, action, [], [(GROUP,) * 6], 20))
            self.assertIsNotNone(caught(TooLarge, action, [], [(GROUP,) * 6, (GROUP,) * 6], 19))

    def test_a_series_that_would_take_very_long(self):
        for action in [series, series_cost]:
            self.assertIsNotNone(caught(TooLarge, action, [], [(GROUP,) * 6] * 3, 20))

    def test_others_have_no_limit(self):
        shapes = [(GROUP,) * 6] * 3
        self.check_shown([(0,) * 13] * 3, {}, True, [1, 2] * 6, shapes, 20)
        self.check_shown([(0,) * 13] * 3, {}, False, [1, 2] * 5, shapes, 20)
        self.check_shown([(0,) * 13], {(0, ()): 12}, True, [], [(GROUP,) * 6], 20)
        self.check_shown([(0,) * 13], {(0, ()): 13}, False, [], [(GROUP,) * 6], 20)
        self.check_shown([(0,) * 12 + (2,)], {(0, ()): 12}, False, [], [(GROUP,) * 6], 20)


class ShowsTest(Cases):
    def setUp(self):
        self.found = series(CELLS, [LONG, SHORT], 11)

    def test_sizes(self):
        right = [(0, 2, 0), (0, 4, 0)]
        self.check_shown(right, self.found.floors, True)
        for sizes in [[], [(0, 2, 0)], [(0, 2, 0)] * 3, [(0, 4, 0), (0, 2, 0)], [(0, 0, 0), (0, 4, 0)],
                      [(0, 2, 0), (0, 1, 0)], [(0, 2), (0, 4, 0)], [(0, 2, 0), (0, 4, 0, 0)], [(0, 2, 0), ()], [(), ()],
                      [(0, 2, 0), (0, 5, 0)],
                      [(0, 3, 0), (0, 4, 0)], [(0, 2, 0), (0, -2, 6)], [(0, 2, 0), (0, 2, 0)],
                      [(0, 2, 0), (0, 10 ** 30, 0)], [(0, 2, 2), (0, 4, 0)],
                      [(0, 2, 0), (0, 4, 0), (0, 4, 0)], [(2, 0, 0), (0, 4, 0)]]:
            self.check_shown(sizes, self.found.floors, False)

    def test_sizes_that_cost_as_much(self):
        for gaps in itertools.product(oracles.sizes_for(LONG, 11), oracles.sizes_for(SHORT, 11)):
            least = sum(self.costs(CELLS, [LONG, SHORT], gaps)) == 8
            self.check_shown(list(gaps), self.found.floors, least)
            self.check_shown(list(gaps), {}, False)

    def test_floors(self):
        sizes, floors = self.found.sizes, self.found.floors
        for change, shown in [({START: 7}, False), ({START: 9}, False), ({START: 0}, False), ({START: -8}, False),
                              ({START: 8}, True), ({START: 10 ** 30}, False)]:
            self.check_shown(sizes, {**floors, **change}, shown)
        self.check_shown(sizes, {spot: floors[spot] for spot in floors if spot != START}, False)
        self.check_shown(sizes, {START: 8}, False)
        self.check_shown(sizes, {START: 5}, False)
        self.check_shown(sizes, {spot: floors[spot] for spot in list(floors)[::-1]}, True)

    def test_each_spot_after_the_first_step(self):
        for gaps in oracles.sizes_for(LONG, 11):
            after = (1, patched(CELLS, LONG, gaps))
            left = 8 - cost_of(CELLS, LONG, gaps)
            floors = {**self.found.floors, after: left}
            self.check_shown(self.found.sizes, floors, left <= 0 or least_cost(after[1], SHORT, 11) >= left)
            self.check_shown(self.found.sizes, {**floors, after: left - 1}, left <= 0)
            self.check_shown(self.found.sizes, {**floors, after: least_cost(after[1], SHORT, 11)}, True)
            self.check_shown(self.found.sizes, {**floors, after: least_cost(after[1], SHORT, 11) + 1}, False)
            del floors[after]
            self.check_shown(self.found.sizes, floors, left <= 0)

    def test_spots_at_the_end_have_no_floor_above_0(self):
        end = (2, patched(patched(CELLS, LONG, (0, 2, 0)), SHORT, (0, 4, 0)))
        for floor, shown in [(0, True), (-1, True), (1, False), (99, False)]:
            self.check_shown(self.found.sizes, {**self.found.floors, end: floor}, shown)

    def test_a_floor_at_the_end_bears_nothing(self):
        # The first floor is too high, and the floors behind its steps would have to be above 0.
        shape = (EMPTY,)
        after = [(1, patched([], shape, gaps)) for gaps in oracles.sizes_for(shape, 4)]
        self.check_shown([(0, 0)], {(0, ()): 2}, True, [], [shape], 4)
        self.check_shown([(0, 0)], {(0, ()): 3}, False, [], [shape], 4)
        for floor in [0, 1, 3]:
            self.check_shown([(0, 0)], {(0, ()): 3, **{spot: floor for spot in after}}, False, [], [shape], 4)
        self.check_shown([(0, 0)], {(0, ()): 2, **{spot: 0 for spot in after}}, True, [], [shape], 4)
        self.check_shown([(0, 0)], {(0, ()): 2, **{spot: 1 for spot in after}}, False, [], [shape], 4)

    def test_floors_below_0_where_none_is_needed(self):
        after = [(1, patched([], (EMPTY,), gaps)) for gaps in oracles.sizes_for((EMPTY,), 6)]
        for floor in [-1, -2, -30]:
            self.check_shown([(0, 0)], {(0, ()): 2, **{spot: floor for spot in after}}, True, [], [(EMPTY,)], 6)
            self.check_shown([(0, 0)], {(0, ()): 1, **{spot: floor for spot in after}}, False, [], [(EMPTY,)], 6)

    def test_stages_beyond_the_limits(self):
        for stage in [-1, 3, 10 ** 30]:
            for floor in [-1, 0, 1, 5]:
                self.check_shown(self.found.sizes, {**self.found.floors, (stage, tuple(CELLS)): floor}, False)

    def test_nothing_to_write_needs_no_floor(self):
        shape = shape_of(CELLS)
        self.check_shown([(0, 4, 0)], {}, True, CELLS, [shape])
        for floor in [0, -1, -30]:
            self.check_shown([(0, 4, 0)], {START: floor}, True, CELLS, [shape])
        self.check_shown([(0, 4, 0)], {START: 1}, False, CELLS, [shape])
        self.check_shown([(0, 0, 0)], {}, False, CELLS, [shape])

    def test_another_file_shapes_or_room(self):
        found = self.found
        self.assertIs(found.shows(tuple(CELLS), (LONG, SHORT), 11), True)
        self.assertIs(found.shows([], [LONG, SHORT], 11), False)
        self.assertIs(found.shows(CELLS, [SHORT, LONG], 11), False)
        self.assertIs(found.shows(CELLS, [LONG], 11), False)
        self.assertIs(found.shows(CELLS, [LONG, SHORT, SHORT], 11), False)
        self.assertIs(found.shows(CELLS, [LONG, SHORT], 10), False)
        for room in range(12, 16):
            shown = oracles.are_series(CELLS, [LONG, SHORT], room, found.sizes, found.floors)
            self.assertIs(found.shows(CELLS, [LONG, SHORT], room), shown, room)

    def test_the_current_attributes(self):
        found = self.found
        found.sizes = [(0, 0, 0), (0, 4, 0)]
        self.assertIs(found.shows(CELLS, [LONG, SHORT], 11), False)
        found.sizes = [(0, 2, 0), (0, 4, 0)]
        self.assertIs(found.shows(CELLS, [LONG, SHORT], 11), True)
        found.floors[START] = 9
        self.assertIs(found.shows(CELLS, [LONG, SHORT], 11), False)

    def test_changed_floors_of_random_series(self):
        rng = random.Random(21)
        hidden = 0
        for _ in range(120):
            cells, shapes, room = random_case(rng, 120)
            found = series(cells, shapes, room)
            for _ in range(5):
                floors = dict(found.floors)
                for spot in rng.sample(list(floors), min(len(floors), rng.randint(0, 2))):
                    floors[spot] += rng.choice([-2, -1, 1])
                if floors and rng.random() < 0.3:
                    del floors[rng.choice(list(floors))]
                shown = oracles.are_series(cells, shapes, room, found.sizes, floors)
                self.check_shown(found.sizes, floors, shown, cells, shapes, room)
                hidden += not shown
            sizes = [rng.choice(oracles.sizes_for(shape, room)) for shape in shapes]
            shown = oracles.are_series(cells, shapes, room, sizes, found.floors)
            self.check_shown(sizes, found.floors, shown, cells, shapes, room)
        self.assertTrue(150 < hidden < 500, hidden)


class EqualTest(Cases):
    def test_equal(self):
        sizes, floors = [(0, 2, 0)], {(0, (2, 2)): 3, (0, (3, 2)): 4}
        same = Series([(0, 2, 0)], {(0, (3, 2)): 4, (0, (2, 2)): 3})
        self.assertTrue(Series(sizes, floors) == same)
        self.assertFalse(Series(sizes, floors) != same)
        more = {**floors, (0, ()): 0}
        for other in [Series([], floors), Series(sizes, {}), Series([(0, 2, 2)], floors), Series(sizes, more)]:
            self.assertFalse(same == other)
            self.assertTrue(same != other)

    def test_objects_of_other_classes(self):
        one = Series([], {})
        for other in [Near((), {}), Patch([], {}), ([], {}), None, 0]:
            self.assertFalse(one == other)
            self.assertTrue(one != other)

    def test_attributes(self):
        self.assertEqual(vars(Series([(0, 2)], {(0, ()): 2})), {"sizes": [(0, 2)], "floors": {(0, ()): 2}})
        self.assertEqual(sorted(vars(series(CELLS, [LONG], 11))), ["floors", "sizes"])

    def test_the_list_and_the_dict_are_copied(self):
        sizes, floors = [(0, 2)], {(0, ()): 2}
        one = Series(sizes, floors)
        sizes.append(())
        floors.clear()
        self.assertEqual(vars(one), {"sizes": [(0, 2)], "floors": {(0, ()): 2}})
        one.sizes.clear()
        one.floors[(1, ())] = 1
        self.assertEqual((sizes, floors), ([(0, 2), ()], {}))

    def test_each_result_is_new(self):
        first = series(CELLS, [LONG], 11)
        first.sizes.clear()
        first.floors.clear()
        self.assertTrue(series(CELLS, [LONG], 11).shows(CELLS, [LONG], 11))


class RefusedTest(Cases):
    def test_files(self):
        for action in ACTIONS:
            for value in odd_values():
                error = caught(BadFile, action, value, [LONG, SHORT], 11)
                self.assertIsNotNone(error, (action, value))
                self.assertIsNone(error.place)
            for cells, place in [([2, 4, 7], 1), ((4, 3, 0), 2), ([3], 0)]:
                self.assertEqual(caught(BadFile, action, cells, [LONG, SHORT], 11).place, place)

    def test_no_row_of_shapes(self):
        for action in ACTIONS:
            for value in [None, 0, 1, True, "", "abc", b"ab", {}, {0: LONG}, {LONG: 0}, set(), {LONG}, iter([LONG]),
                          object(), len, [], (), [LONG] * 4, (SHORT,) * 4, [None] * 4, [LONG] * 100000, range(2)]:
                error = caught(BadShapes, action, CELLS, value, 11)
                self.assertIsNotNone(error, (action, value))
                self.assertIsNone(error.index)

    def test_the_first_item_that_is_no_shape(self):
        for action in ACTIONS:
            for value in odd_values():
                for shapes, index in [([value], 0), ([LONG, value], 1), ((LONG, SHORT, value), 2),
                                      ([value, LONG, value], 0), ((LONG, value, value), 1)]:
                    error = caught(BadShapes, action, CELLS, shapes, 11)
                    self.assertIsNotNone(error, (action, value))
                    self.assertEqual(repr(error.index), repr(index))
            # A shape itself is a tuple, but its items are boxes.
            self.assertEqual(caught(BadShapes, action, CELLS, LONG, 11).index, 0)

    def test_rooms(self):
        for action in ACTIONS:
            for room in [8, 16, 0, -1, 30, 31, 10 ** 30, None, True, False, "11", (), [11], {}, object(), len]:
                self.assertIsNotNone(caught(BadRoom, action, CELLS, [LONG, SHORT], room), (action, room))
                self.assertIsNotNone(caught(BadRoom, action, CELLS, [SHORT, LONG], room), (action, room))
            for room in [9, 15]:
                action(CELLS, [LONG, SHORT], room)

    def test_no_room_for_all_of_them(self):
        far = [(EMPTY,), (("data", (0,) * 6), ("data", (0,)))]
        for action in ACTIONS:
            for room in range(32):
                self.assertIsNotNone(caught(BadRoom, action, [], far, room))
                self.assertIsNotNone(caught(BadRoom, action, [], far[::-1], room))

    def test_a_room_of_more_than_thirty_cells(self):
        shape = (("data", (0,) * 6),) * 3
        for action in ACTIONS:
            action([], [shape], 30)
            self.assertIsNotNone(caught(BadRoom, action, [], [shape], 31))

    def test_the_first_of_two_wrong_arguments(self):
        for action in ACTIONS:
            for wrongs in [[([2], BadFile), ([], BadShapes), (8, BadRoom)],
                           [(None, BadFile), ([LONG, None], BadShapes), ([], BadRoom)]]:
                self.assertEqual(oracles.wrong_order(action, [CELLS, [LONG, SHORT], 11], wrongs), [])

    def test_too_large_comes_last(self):
        many = [(GROUP,) * 6] * 3
        for action in [series, series_cost]:
            self.assertIsNotNone(caught(BadFile, action, [2], many, 20))
            self.assertIsNotNone(caught(BadShapes, action, [], many + many, 20))
            self.assertIsNotNone(caught(BadRoom, action, [], many, 21))
            self.assertIsNotNone(caught(TooLarge, action, [], many, 20))

    def test_arguments_stay_as_they_are(self):
        for values in [(CELLS, [LONG, SHORT], 11), (CELLS, [LONG, None], 11), ([2, 9], [LONG], 11),
                       (CELLS, [LONG], [11]), ([], [(GROUP,) * 6] * 3, 20)]:
            before = copy.deepcopy(values)
            for action in ACTIONS:
                attempted(action, *values)
            self.assertEqual(repr(values), repr(before))

    def test_a_call_that_is_refused_changes_nothing(self):
        one = Series([(0, 2, 0)], {START: 5})
        attempted(one.shows, CELLS, [LONG], 8)
        attempted(one.shows, CELLS, [], 11)
        self.assertEqual(one, Series([(0, 2, 0)], {START: 5}))
