"""Shapes: what is to be in a file, and how much room that takes."""

from boxshift.boxes import HEAD, MOST_CELLS, MOST_GROUPS_AROUND, is_cell
from boxshift.errors import BadShape
from boxshift.values import is_between

MOST_BOXES = 6
MOST_ITEMS = 6


def least_room(shape):
    """Return how many cells a shape has without gaps."""
    check_shape(shape)
    return cells_of(shape)


def count_gaps(shape):
    """Return how many gaps a shape has."""
    check_shape(shape)
    boxes = all_boxes(shape)
    groups = [content for kind, content in boxes if kind == "group"]
    # One gap stands before each box, one at the end of each group, and one at the end.
    return len(boxes) + len(groups) + 1


def check_shape(shape):
    """Raise BadShape if a value, of any kind, is not a shape."""
    if not is_shape(shape):
        raise BadShape("no shape")


def is_shape(value):
    """Return whether a value, of any kind, is a shape."""
    if not are_boxes(value, 0):
        return False
    boxes = all_boxes(value)
    if not 1 <= len(boxes) <= MOST_BOXES or cells_of(value) > MOST_CELLS:
        return False
    return have_targets(boxes)


def are_boxes(value, around):
    """Return whether a value is a tuple of a few boxes with so many groups around them, whatever their targets."""
    # The length is tested before the items, so that no value takes long.
    if not isinstance(value, tuple) or len(value) > MOST_BOXES:
        return False
    return all([is_box(item, around) for item in value])


def is_box(value, around):
    """Return whether a value is a box that is not free, with so many groups around it, whatever its targets."""
    if not is_pair(value):
        return False
    kind, content = value
    # An object of another class may be equal to any word.
    if not isinstance(kind, str):
        return False
    if kind == "group":
        return around <= MOST_GROUPS_AROUND and are_boxes(content, around + 1)
    if not isinstance(content, tuple) or len(content) > MOST_ITEMS:
        return False
    if kind == "data":
        return all([is_cell(item) for item in content])
    return kind == "table" and all([is_pair(item) for item in content])


def is_pair(value):
    """Return whether a value is a tuple of two."""
    return isinstance(value, tuple) and len(value) == 2


def have_targets(boxes):
    """Return whether each target in some boxes is a cell of one of their data boxes."""
    lengths = [len(content) for kind, content in boxes if kind == "data"]
    targets = [target for kind, content in boxes if kind == "table" for target in content]
    return all([is_target(target, lengths) for target in targets])


def is_target(pair, lengths):
    """Return whether a pair is the number of a data box and an index in its content, for data of such lengths."""
    number, index = pair
    return is_between(number, 0, len(lengths) - 1) and is_between(index, 0, lengths[number] - 1)


def all_boxes(boxes):
    """Return the list of some boxes and those in groups among them, in the order in which they begin."""
    found = []
    for box in boxes:
        kind, content = box
        found.append(box)
        if kind == "group":
            found.extend(all_boxes(content))
    return found


def cells_of(boxes):
    """Return how many cells some boxes have without gaps."""
    count = 0
    for kind, content in all_boxes(boxes):
        # The boxes in a group are counted for themselves.
        count += HEAD if kind == "group" else HEAD + len(content)
    return count
