"""The fewest cells that must be written to change a file to several shapes in turn, with floors that show it."""

from math import comb

from boxshift.boxes import HEAD, MOST_CELLS, check_file
from boxshift.errors import BadShapes, TooLarge
from boxshift.layouts import are_all_sizes, layout_of, sizes_within
from boxshift.patches import cheapest_layout, check_room
from boxshift.shapes import cells_of, count_gaps, is_shape

MOST_SHAPES = 3
MOST_STEPS = 3000


class Series:
    """Sizes of all gaps for each of some shapes that cost least, and floors that show that none cost less."""

    def __init__(self, sizes, floors):
        self.sizes = list(sizes)
        self.floors = {spot: floors[spot] for spot in floors}

    def __eq__(self, other):
        return isinstance(other, Series) and self.sizes == other.sizes and self.floors == other.floors

    def shows(self, cells, shapes, room):
        """Return whether the sizes and the floors are as they must be for a file, shapes and a room."""
        check_series(cells, shapes, room)
        if not fit_shapes(self.sizes, shapes, room):
            return False
        cost = cost_in_turn(cells, shapes, self.sizes)
        if cost > 0 and self.floors.get((0, tuple(cells)), 0) < cost:
            return False
        for spot in self.floors:
            if not holds_at(self.floors, spot, shapes, room):
                return False
        return True


def series(cells, shapes, room):
    """Return a Series for a file, shapes and a room."""
    check_series(cells, shapes, room)
    ways = ways_through(stages_from(cells, shapes, room))
    floors = {}
    for stage, files in enumerate(ways):
        for file, way in files.items():
            if way[0] > 0:
                floors[(stage, file)] = way[0]
    return Series(sizes_on_way(cells, ways), floors)


def series_cost(cells, shapes, room):
    """Return what a series costs."""
    check_series(cells, shapes, room)
    ways = ways_through(stages_from(cells, shapes, room))
    return ways[0][tuple(cells)][0]


def one_by_one(cells, shapes, room):
    """Return the list of the costs if the file is changed to each shape as if it were the last one."""
    check_series(cells, shapes, room)
    costs = []
    file = cells
    for shape in shapes:
        best = cheapest_layout(file, shape, room)
        costs.append(best.cost)
        file = best.row
    return costs


def check_series(cells, shapes, room):
    """Raise an error if the values, of any kind, are not a file, some shapes and a room for each of them."""
    check_file(cells)
    if not isinstance(shapes, (list, tuple)) or not 1 <= len(shapes) <= MOST_SHAPES:
        raise BadShapes(None)
    for index, shape in enumerate(shapes):
        if not is_shape(shape):
            raise BadShapes(index)
    for shape in shapes:
        check_room(room, shape)


def fit_shapes(sizes, shapes, room):
    """Return whether there are sizes of all gaps for each shape, with which it has at most as many cells as a room."""
    if len(sizes) != len(shapes):
        return False
    return all([are_all_sizes(gaps, shape, room) for gaps, shape in zip(sizes, shapes)])


def cost_in_turn(cells, shapes, sizes):
    """Return what it costs to change a file to each shape in turn with the sizes for it."""
    cost = 0
    file = cells
    for shape, gaps in zip(shapes, sizes):
        layout = layout_of(file, shape, gaps)
        cost += layout.cost
        file = layout.row
    return cost


def holds_at(floors, spot, shapes, room):
    """Return whether the floor of a spot is not too high, by the floors of the spots to which steps lead from it."""
    stage, file = spot
    floor = floors[spot]
    if floor <= 0:
        return 0 <= stage <= len(shapes)
    if not 0 <= stage < len(shapes):
        return False
    # Steps that cost as much as the floor or more may lead to any spot.
    for gaps, cost, after in steps_below(file, shapes[stage], room, floor):
        if floors.get((stage + 1, after), 0) < floor - cost:
            return False
    return True


def stages_from(cells, shapes, room):
    """Return a list of a dict for each shape, from the files that it can change to their steps."""
    stages = []
    files = {tuple(cells): True}
    steps = 0
    for shape in shapes:
        steps += len(files) * count_steps(count_gaps(shape), room - cells_of(shape))
        # The steps are counted before they are made, so that no series takes long.
        if steps > MOST_STEPS:
            raise TooLarge("more steps than a series may have")
        stage = {file: steps_below(file, shape, room, MOST_CELLS + 1) for file in files}
        files = {after: True for made in stage.values() for gaps, cost, after in made}
        stages.append(stage)
    return stages


def count_steps(gaps, spare):
    """Return how many tuples of sizes there are for so many gaps with so many cells to spare."""
    # What is to spare behind the first two cells of each free box is spread over these boxes and what is left over.
    return sum([comb(gaps, boxes) * comb(spare - boxes, boxes) for boxes in range(spare // HEAD + 1)])


def steps_below(file, shape, room, limit):
    """Return a list of the steps that change a file to a shape for less than a limit: sizes, cost and new file."""
    steps = []
    ahead = [(layout_of(file, shape, ()), room - cells_of(shape))]
    while ahead:
        layout, spare = ahead.pop()
        if layout.cost < limit:
            if layout.is_whole():
                steps.append((layout.gaps, layout.cost, tuple(layout.row)))
            else:
                ahead.extend([(layout.with_gap(size), spare - size) for size in sizes_within(spare)])
    return steps


def ways_through(stages):
    """Return a list of a dict for each stage, from the files there to the costs, sizes and new files of best steps.

    The costs are those of the step and of all steps after it.
    """
    ways = []
    costs = {}
    for stage in reversed(stages):
        files = {file: best_step(stage[file], costs) for file in stage}
        costs = {file: files[file][0] for file in files}
        ways.append(files)
    return ways[::-1]


def best_step(steps, costs):
    """Return the cost, the sizes and the new file of the best step, if such costs are added for the new files."""
    return min([(cost + costs.get(after, 0), gaps, after) for gaps, cost, after in steps])


def sizes_on_way(cells, ways):
    """Return the list of the sizes of the best steps from a file on."""
    sizes = []
    file = tuple(cells)
    for files in ways:
        _, gaps, file = files[file]
        sizes.append(gaps)
    return sizes
