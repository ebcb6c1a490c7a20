"""What the cells of a file say, or the first wrong place in them."""

from boxshift.errors import BadFile
from boxshift.values import is_between

GROUP = 1
DATA = 2
FREE = 3
TABLE = 4
HEAD = 2
MOST_CELLS = 30
LARGEST_CELL = 99
MOST_GROUPS_AROUND = 1


def read(cells):
    """Return the boxes of a file, a tuple."""
    check_file(cells)
    return boxes_between(cells, 0, len(cells), data_targets(cells))


def shape_of(cells):
    """Return the shape of a file: the tuple of its boxes without the free ones."""
    return without_free(read(cells))


def free_cells(cells):
    """Return how many cells of a file belong to free boxes."""
    check_file(cells)
    return sum([cells[at + 1] for at in box_places(cells, FREE)])


def first_wrong(cells):
    """Return the first wrong place of cells, None if they are a file."""
    check_cells(cells)
    wrong = wrong_box(cells, 0, len(cells), 0)
    if wrong is None:
        wrong = wrong_entry(cells)
    return wrong


def check_file(cells):
    """Raise BadFile if a value, of any kind, is not a file."""
    wrong = first_wrong(cells)
    if wrong is not None:
        raise BadFile(wrong)


def check_cells(cells):
    """Raise BadFile without a place if a value, of any kind, is not a row of cells."""
    if not isinstance(cells, (list, tuple)) or len(cells) > MOST_CELLS:
        raise BadFile(None)
    for cell in cells:
        if not is_cell(cell):
            raise BadFile(None)


def is_cell(value):
    """Return whether a value, of any kind, is a cell."""
    return is_between(value, 0, LARGEST_CELL)


def wrong_box(cells, begin, end, around):
    """Return the first wrong place of the boxes from begin to end, with so many groups around them, or None."""
    at = begin
    while at < end:
        wrong = wrong_head(cells, at, end, around)
        if wrong is None and cells[at] == GROUP:
            wrong = wrong_box(cells, at + HEAD, at + cells[at + 1], around + 1)
        if wrong is not None:
            return wrong
        at += cells[at + 1]
    return None


def wrong_head(cells, at, end, around):
    """Return which of the first two cells of the box at a place is wrong, None if neither is."""
    left = end - at
    if left == 1 or not GROUP <= cells[at] <= TABLE:
        return at
    if cells[at] == GROUP and around > MOST_GROUPS_AROUND:
        return at
    if not HEAD <= cells[at + 1] <= left:
        return at + 1
    return None


def wrong_entry(cells):
    """Return the place of the first entry that is not the place of a cell in data, None if there is none."""
    targets = data_targets(cells)
    for at in box_places(cells, TABLE):
        for place in content_places(cells, at):
            if cells[place] not in targets:
                return place
    return None


def box_places(cells, kind):
    """Return the list of the places at which the boxes of a kind begin, those in groups included."""
    found = []
    at = 0
    while at < len(cells):
        if cells[at] == kind:
            found.append(at)
        # The content of a group is boxes again, so the next box begins directly after its head.
        at += HEAD if cells[at] == GROUP else cells[at + 1]
    return found


def content_places(cells, at):
    """Return the list of the places of the content of the box at a place."""
    return list(range(at + HEAD, at + cells[at + 1]))


def data_targets(cells):
    """Return a dict from the place of each cell in data to its target, the number of the box and the index."""
    targets = {}
    for number, at in enumerate(box_places(cells, DATA)):
        for index, place in enumerate(content_places(cells, at)):
            targets[place] = (number, index)
    return targets


def boxes_between(cells, begin, end, targets):
    """Return the tuple of the boxes from begin to end."""
    boxes = []
    at = begin
    while at < end:
        boxes.append(box_at(cells, at, targets))
        at += cells[at + 1]
    return tuple(boxes)


def box_at(cells, at, targets):
    """Return the box that begins at a place."""
    begin = at + HEAD
    end = at + cells[at + 1]
    if cells[at] == GROUP:
        return ("group", boxes_between(cells, begin, end, targets))
    if cells[at] == DATA:
        return ("data", tuple(cells[begin:end]))
    if cells[at] == FREE:
        return ("free", end - begin)
    return ("table", tuple([targets[entry] for entry in cells[begin:end]]))


def without_free(boxes):
    """Return the tuple of boxes without the free ones, at any depth."""
    kept = []
    for kind, content in boxes:
        if kind == "group":
            kept.append((kind, without_free(content)))
        elif kind != "free":
            kept.append((kind, content))
    return tuple(kept)
