"""The fewest cells that must be written to change a file to a shape within a room, with trees of bounds."""

from boxshift.boxes import MOST_CELLS, check_file
from boxshift.errors import BadRoom
from boxshift.layouts import are_all_sizes, layout_of, sizes_within
from boxshift.shapes import cells_of, check_shape
from boxshift.values import is_between

MOST_SPARE = 8


class Patch:
    """Sizes of all gaps that cost least within a room, and a tree that shows that none cost less."""

    def __init__(self, gaps, tree):
        self.gaps = gaps
        self.tree = tree

    def __eq__(self, other):
        return isinstance(other, Patch) and self.gaps == other.gaps and self.tree == other.tree

    def shows(self, cells, shape, room):
        """Return whether the sizes and the tree are as they must be for a file, a shape and a room."""
        check_patch(cells, shape, room)
        if not are_all_sizes(self.gaps, shape, room):
            return False
        # If the tree holds for what these sizes cost, then no sizes cost less, so they cost least.
        cost = layout_of(cells, shape, self.gaps).cost
        return is_tree(self.tree, layout_of(cells, shape, ()), room - cells_of(shape), cost)


def cheapest(cells, shape, room):
    """Return a Patch for a file, a shape and a room."""
    check_patch(cells, shape, room)
    best = cheapest_layout(cells, shape, room)
    tree = tree_of(layout_of(cells, shape, ()), room - cells_of(shape), best.cost)
    return Patch(best.gaps, tree)


def least_cost(cells, shape, room):
    """Return what the sizes cost that cost least."""
    check_patch(cells, shape, room)
    return cheapest_layout(cells, shape, room).cost


def room_costs(cells, shape):
    """Return a dict from all rooms for a shape, ascending, to the least costs with them."""
    check_file(cells)
    check_shape(shape)
    costs = {}
    best = None
    for room in rooms_of(shape):
        # What fits into a smaller room fits into this one, too.
        best = cheaper_layout(layout_of(cells, shape, ()), room - cells_of(shape), best)
        costs[room] = best.cost
    return costs


def check_patch(cells, shape, room):
    """Raise an error if the values, of any kind, are not a file, a shape and a room for it."""
    check_file(cells)
    check_shape(shape)
    check_room(room, shape)


def check_room(room, shape):
    """Raise BadRoom if a value, of any kind, is not a room for a shape."""
    rooms = rooms_of(shape)
    if not is_between(room, rooms[0], rooms[-1]):
        raise BadRoom("no room for the shape")


def rooms_of(shape):
    """Return the ascending list of the rooms for a shape."""
    fewest = cells_of(shape)
    return list(range(fewest, min(fewest + MOST_SPARE, MOST_CELLS) + 1))


def cheapest_layout(cells, shape, room):
    """Return the layout for the first of all tuples of sizes that cost least within a room."""
    return cheaper_layout(layout_of(cells, shape, ()), room - cells_of(shape), None)


def cheaper_layout(layout, spare, best):
    """Return the first of the cheapest layouts that go on from one, or the best so far, if none is cheaper.

    There are so many cells to spare for the gaps whose sizes are not known.
    """
    if best is not None and layout.cost >= best.cost:
        return best
    if layout.is_whole():
        return layout
    for size in sizes_within(spare):
        best = cheaper_layout(layout.with_gap(size), spare - size, best)
    return best


def tree_of(layout, spare, least):
    """Return a tree that shows that what goes on from a layout costs at least so much."""
    if layout.cost >= least:
        return None
    return tuple([tree_of(layout.with_gap(size), spare - size, least) for size in sizes_within(spare)])


def is_tree(tree, layout, spare, least):
    """Return whether a tree shows that what goes on from a layout costs at least so much."""
    if tree is None:
        return layout.cost >= least
    sizes = sizes_within(spare)
    if layout.is_whole() or len(tree) != len(sizes):
        return False
    for size, part in zip(sizes, tree):
        if not is_tree(part, layout.with_gap(size), spare - size, least):
            return False
    return True
