"""Slow and plain answers of the tests' own: new files, costs, trees, forms, floors and series, by the words alone."""

import itertools

from tests.support import CODES, Wrong, gaps_in, random_file, told_boxes, written

GROUP, TABLE, FREE = CODES["group"], CODES["table"], CODES["free"]


def with_free(boxes, sizes):
    """Boxes with a free box in each gap whose size is not 0; sizes is an iterator over the sizes of all gaps."""
    row = []
    for kind, content in boxes:
        row += free_for(next(sizes))
        row.append((kind, with_free(content, sizes) if kind == "group" else content))
    row += free_for(next(sizes))
    return tuple(row)


def free_for(size):
    return [("free", size - 2)] if size else []


def new_file(cells, shape, gaps):
    """The file after it is changed to a shape with gaps, perhaps with more than 30 cells."""
    row = written(with_free(shape, iter(gaps)), None)
    before = list(cells) + [0] * len(row)
    return tuple(before[place] if cell is None else cell for place, cell in enumerate(row))


def writes(before, after, places=None):
    """At how many places, of all or of some, there is no cell before, or another one."""
    places = range(len(after)) if places is None else places
    return sum(1 for place in places if place >= len(before) or before[place] != after[place])


def starts_of(cells):
    """The places, kinds and lengths of all boxes of a file, in the order in which they begin."""
    found = []
    at = 0
    while at < len(cells):
        found.append((at, cells[at], cells[at + 1]))
        at += 2 if cells[at] == GROUP else cells[at + 1]
    return found


def known(cells, shape, gaps):
    """The known cost for the sizes of some first gaps."""
    many = gaps_in(shape)
    if len(gaps) == many:
        return writes(cells, new_file(cells, shape, gaps))
    # The first gap whose size is not known gets a free box, so that its place can be found.
    sizes = list(gaps) + [2] + [0] * (many - len(gaps) - 1)
    row = new_file(cells, shape, sizes)
    boxes = starts_of(row)
    mark = [at for at, kind, _ in boxes if kind == FREE][sum(1 for size in gaps if size)]
    places = set(range(mark))
    for at, kind, length in boxes:
        if kind == GROUP and at < mark < at + length:
            places.discard(at + 1)
        if kind == TABLE:
            places -= {place for place in range(at + 2, at + length) if row[place] >= mark}
    return writes(cells, row, places)


def all_sizes(many, spare):
    """All tuples of sizes of so many gaps with so many cells to spare, ascending."""
    if many == 0:
        return [()]
    return [
        (size, *rest)
        for size in [0, *range(2, spare + 1)]
        for rest in all_sizes(many - 1, spare - size)
    ]


def room_range(shape):
    fewest = len(written(shape))
    return range(fewest, min(fewest + 8, 30) + 1)


def sizes_for(shape, room):
    """All tuples of sizes of all gaps of a shape within a room, ascending."""
    return all_sizes(gaps_in(shape), room - len(written(shape)))


def first_least(cells, shape, room):
    """The least cost within a room, and the first sizes that cost it."""
    return min((writes(cells, new_file(cells, shape, gaps)), gaps) for gaps in sizes_for(shape, room))


def is_tree(cells, shape, room, least, tree, gaps=()):
    """Whether a tree is one for the sizes of some first gaps."""
    if tree is None:
        return known(cells, shape, gaps) >= least
    spare = room - len(written(shape)) - sum(gaps)
    sizes = [0, *range(2, spare + 1)]
    if len(gaps) == gaps_in(shape) or len(tree) != len(sizes):
        return False
    return all(is_tree(cells, shape, room, least, part, (*gaps, size)) for size, part in zip(sizes, tree))


def whole_tree(shape, spare, many=None):
    """The tree in which every branch goes on up to the last gap."""
    many = gaps_in(shape) if many is None else many
    if many == 0:
        return None
    return tuple(whole_tree(shape, spare - size, many - 1) for size in [0, *range(2, spare + 1)])


def branches(tree, path=()):
    """The paths to all parts of a tree that are tuples."""
    if tree is None:
        return []
    return [path] + [found for index, part in enumerate(tree) for found in branches(part, (*path, index))]


def replaced(tree, path, part):
    """A tree with another part at the end of a path."""
    if not path:
        return part
    at = path[0]
    return tree[:at] + (replaced(tree[at], path[1:], part),) + tree[at + 1:]


def is_form(cells):
    try:
        told_boxes(cells)
    except Wrong:
        return False
    return True


def least_apart(cells):
    """At how many places a nearest form differs, by trying all rows with cells that can matter; None if no form."""
    worth = [sorted({cell, *range(1, max(4, len(cells)) + 1)}) for cell in cells]
    found = [writes(cells, row) for row in itertools.product(*worth) if is_form(row)]
    return min(found, default=None)


def least_apart_by_boxes(cells, begin, end, depth, memo):
    """At how many cells from begin to end a nearest row of boxes differs; 99 if there is none."""
    key = (begin, end, depth)
    if begin == end:
        return 0
    if key not in memo:
        memo[key] = min(
            [sum_for(cells, key, kind, length, lambda *other: least_apart_by_boxes(cells, *other, memo))
             for kind, length in first_boxes(key)], default=99)
    return memo[key]


def first_boxes(triple):
    begin, end, depth = triple
    kinds = [1, 2, 3, 4] if depth < 2 else [2, 3, 4]
    return [(kind, length) for kind in kinds for length in range(2, end - begin + 1)]


def sum_for(cells, triple, kind, length, floor):
    begin, end, depth = triple
    inner = floor(begin + 2, begin + length, depth + 1) if kind == 1 else 0
    return (cells[begin] != kind) + (cells[begin + 1] != length) + floor(begin + length, end, depth) + inner


def are_near(cells, form, floors):
    """Whether a form and floors are as in [9]."""
    if len(form) != len(cells) or not all(0 <= cell <= 99 for cell in form) or not is_form(form):
        return False

    def floor(*triple):
        return max(0, floors.get(triple, 0))

    apart = writes(cells, form)
    if apart and floor(0, len(cells), 0) < apart:
        return False
    for (begin, end, depth), worth in floors.items():
        if not (0 <= begin <= end <= len(cells) and 0 <= depth <= 2):
            return False
        if worth > 0 and begin == end:
            return False
        triple = (begin, end, depth)
        if worth > 0 and any(worth > sum_for(cells, triple, *box, floor) for box in first_boxes(triple)):
            return False
    return True


def steps_of(file, shape, room):
    """All steps from a file to a shape: sizes, cost and new file."""
    found = []
    for gaps in sizes_for(shape, room):
        after = new_file(file, shape, gaps)
        found.append((gaps, writes(file, after), after))
    return found


def steps_in_all(cells, shapes, room):
    """From each spot to which steps can lead, its steps."""
    steps = {}
    files = {tuple(cells)}
    for stage, shape in enumerate(shapes):
        for file in files:
            steps[(stage, file)] = steps_of(file, shape, room)
        files = {after for file in files for _, _, after in steps[(stage, file)]}
    return steps


def least_from(spot, steps):
    """What the cheapest series from a spot costs."""
    if spot not in steps:
        return 0
    return min(cost + least_from((spot[0] + 1, after), steps) for _, cost, after in steps[spot])


def are_series(cells, shapes, room, sizes, floors):
    """Whether sizes and floors are as in [10]."""
    if len(sizes) != len(shapes):
        return False
    total = 0
    file = tuple(cells)
    for gaps, shape in zip(sizes, shapes):
        if gaps not in sizes_for(shape, room):
            return False
        after = new_file(file, shape, gaps)
        total += writes(file, after)
        file = after
    if total and floors.get((0, tuple(cells)), 0) < total:
        return False
    for (stage, file), floor in floors.items():
        if floor > 0 and stage >= len(shapes):
            return False
        if floor > 0:
            for _, cost, after in steps_of(file, shapes[stage], room):
                left = floor - cost
                if left > 0 and ((stage + 1, after) not in floors or floors[(stage + 1, after)] < left):
                    return False
    return True


def likely_file(rng, shape):
    """The cells of a file that is perhaps like one of the shape."""
    if rng.random() < 0.3:
        return random_file(rng)
    sizes = [rng.choice([0, 0, 0, 2, 3, 4]) for _ in range(gaps_in(shape))]
    row = written(with_free(altered(rng, shape), iter(sizes)), rng.choice([0, 2, 7]))
    return row if len(row) <= 30 else random_file(rng)


def altered(rng, boxes):
    """Boxes of which some data have other or more cells."""
    made = []
    for kind, content in boxes:
        if kind == "group":
            content = altered(rng, content)
        elif kind == "data" and rng.random() < 0.4:
            content = tuple(rng.choice([cell, cell, 8]) for cell in content) + (5,) * rng.choice([0, 0, 1, 2])
        made.append((kind, content))
    return tuple(made)


def wrong_order(action, right, wrongs):
    """What goes wrong if two arguments of a call are wrong at once: the error of the earlier one must be raised.

    The wrongs are a value and an error for each argument, in the order in which they are checked.
    """
    found = []
    for first in range(len(wrongs)):
        for second in range(first, len(wrongs)):
            values = list(right)
            values[first], values[second] = wrongs[first][0], wrongs[second][0]
            try:
                action(*values)
                found.append((action, values, None))
            except Exception as error:
                if error.__class__ is not wrongs[first][1]:
                    found.append((action, values, error))
    return found
