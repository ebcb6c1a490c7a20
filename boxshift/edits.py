"""Edits of shapes: other cells or targets, and boxes that are taken away or put in."""

from boxshift.errors import BadEdit
from boxshift.shapes import all_boxes, check_shape, is_shape
from boxshift.values import is_between

SIZES = {"fill": 3, "point": 3, "drop": 2, "add": 3}


def edited(shape, edit):
    """Return the shape after an edit."""
    check_shape(shape)
    after = shape_after(shape, edit)
    if after is None:
        raise BadEdit("no edit of the shape")
    return after


def is_edit(shape, value):
    """Return whether a value, of any kind, is an edit of a shape."""
    check_shape(shape)
    return shape_after(shape, value) is not None


def shape_after(shape, value):
    """Return the shape after an edit, None if the value, of any kind, is no edit of the shape."""
    if not is_told(value):
        return None
    kind, index, *rest = value
    if not is_between(index, 0, last_index(shape, kind)):
        return None
    if kind == "fill":
        after = filled(shape, index, rest[0])
    elif kind == "point":
        after = pointed(shape, index, rest[0])
    elif kind == "drop":
        after = dropped(shape, index)
    else:
        after = added(shape, index, rest[0])
    return after if is_shape(after) else None


def is_told(value):
    """Return whether a value, of any kind, is a tuple of the word of an edit and as many values as belong to it."""
    if not isinstance(value, tuple) or not value or not isinstance(value[0], str):
        return False
    return len(value) == SIZES.get(value[0])


def last_index(shape, kind):
    """Return the greatest index that an edit of a kind can have, -1 if there is none."""
    if kind == "fill":
        return len(indices_of(shape, "data")) - 1
    if kind == "point":
        return len(entry_spots(shape)) - 1
    boxes = all_boxes(shape)
    return len(boxes) if kind == "add" else len(boxes) - 1


def filled(shape, number, cells):
    """Return the boxes of a shape in which a data box has got a content."""
    return with_boxes(shape, indices_of(shape, "data")[number], [("data", cells)])


def pointed(shape, index, target):
    """Return the boxes of a shape in which an entry has got a target."""
    table, spot = entry_spots(shape)[index]
    _, targets = all_boxes(shape)[table]
    return with_boxes(shape, table, [("table", (*targets[:spot], target, *targets[spot + 1:]))])


def dropped(shape, index):
    """Return the boxes of a shape without one of them; targets in it have None as the number of the data box."""
    boxes = all_boxes(shape)
    before = count_data(boxes[:index])
    gone = count_data(all_boxes([boxes[index]]))
    numbers = list(range(before)) + [None] * gone + list(range(before, count_data(boxes) - gone))
    return renumbered(with_boxes(shape, index, []), numbers)


def added(shape, index, cells):
    """Return the boxes of a shape and a new data box before one of them, or at the end of all."""
    boxes = all_boxes(shape)
    before = count_data(boxes[:index])
    moved = renumbered(shape, list(range(before)) + list(range(before + 1, count_data(boxes) + 1)))
    if index == len(boxes):
        return (*moved, ("data", cells))
    return with_boxes(moved, index, [("data", cells), all_boxes(moved)[index]])


def with_boxes(boxes, index, made):
    """Return a tuple of boxes with others in place of the one with an index, where those in groups count."""
    row = []
    at = 0
    for box in boxes:
        kind, content = box
        after = at + len(all_boxes([box]))
        if at == index:
            row.extend(made)
        elif at < index < after:
            row.append((kind, with_boxes(content, index - at - 1, made)))
        else:
            row.append(box)
        at = after
    return tuple(row)


def renumbered(boxes, numbers):
    """Return a tuple of boxes with other numbers in their targets, those that a list gives to the numbers there."""
    row = []
    for kind, content in boxes:
        if kind == "group":
            row.append((kind, renumbered(content, numbers)))
        elif kind == "table":
            row.append((kind, tuple([(numbers[number], index) for number, index in content])))
        else:
            row.append((kind, content))
    return tuple(row)


def indices_of(shape, kind):
    """Return the list of the indices of the boxes of a kind."""
    return [index for index, box in enumerate(all_boxes(shape)) if box[0] == kind]


def entry_spots(shape):
    """Return a list of a pair for each entry: the index of its table, and its index in this."""
    boxes = all_boxes(shape)
    return [(index, spot) for index in indices_of(shape, "table") for spot in range(len(boxes[index][1]))]


def count_data(boxes):
    """Return how many of some boxes are data boxes, without those in groups among them."""
    return len([kind for kind, content in boxes if kind == "data"])
