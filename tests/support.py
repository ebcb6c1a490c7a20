"""What several tests need: a writer and a reader of files of their own, random boxes, and wrong values."""

from unittest.mock import ANY

CODES = {"group": 1, "data": 2, "free": 3, "table": 4}
NAMES = {code: kind for kind, code in CODES.items()}
SHAPE_KINDS = ["group", "data", "data", "table"]
FILE_KINDS = ["group", "group", "data", "data", "data", "free", "table"]


class Wrong(Exception):
    """A row of cells is no file."""

    def __init__(self, place):
        super().__init__(place)
        self.place = place


def boxes_in(boxes):
    """All boxes in the order in which they begin, those in groups included."""
    found = []
    for kind, content in boxes:
        found.append((kind, content))
        if kind == "group":
            found += boxes_in(content)
    return found


def written(boxes, spare=0):
    """The cells of a file with these boxes, with a cell that stands in its free boxes."""
    starts = []
    row = rows_of(boxes, 0, starts, spare)
    return [starts[cell[0]] + cell[1] if isinstance(cell, tuple) else cell for cell in row]


def rows_of(boxes, at, starts, spare):
    row = []
    for kind, content in boxes:
        begin = at + len(row) + 2
        if kind == "group":
            inner = rows_of(content, begin, starts, spare)
        elif kind == "free":
            inner = [spare] * content
        else:
            inner = list(content)
        if kind == "data":
            starts.append(begin)
        row += [CODES[kind], len(inner) + 2, *inner]
    return row


def told(cells):
    """The boxes of a row of cells, with the targets of its tables; Wrong if it is no file."""
    top, starts, entries = told_boxes(cells)
    for place, entry in entries:
        if target_of(entry, starts) is None:
            raise Wrong(place)
    return settled(top, starts)


def told_boxes(cells):
    """The boxes of a row of cells, where the data stand, and the entries; Wrong if there is a wrong box.

    They are read in one pass with the ends of all open groups.
    """
    cells = list(cells)
    top, starts, entries = [], [], []
    stack = [(len(cells), top)]
    at = 0
    while True:
        while stack and stack[-1][0] == at:
            stack.pop()
        if not stack:
            return top, starts, entries
        end, boxes = stack[-1]
        if at + 1 == end or cells[at] not in NAMES or (cells[at] == 1 and len(stack) == 3):
            raise Wrong(at)
        kind, length = NAMES[cells[at]], cells[at + 1]
        if length < 2 or at + length > end:
            raise Wrong(at + 1)
        inner = cells[at + 2:at + length]
        if kind == "data":
            starts.append((at + 2, length - 2))
        if kind == "table":
            entries += [(at + 2 + index, entry) for index, entry in enumerate(inner)]
        content = [] if kind == "group" else inner
        boxes.append((kind, content))
        if kind == "group":
            stack.append((at + length, content))
        at += 2 if kind == "group" else length


def target_of(entry, starts):
    for number, (begin, length) in enumerate(starts):
        if begin <= entry < begin + length:
            return (number, entry - begin)
    return None


def settled(boxes, starts):
    made = []
    for kind, content in boxes:
        if kind == "group":
            content = settled(content, starts)
        elif kind == "data":
            content = tuple(content)
        elif kind == "free":
            content = len(content)
        else:
            content = tuple(target_of(entry, starts) for entry in content)
        made.append((kind, content))
    return tuple(made)


def wrong_place(cells):
    """The first wrong place by the reader of the tests, None if there is none."""
    try:
        told(cells)
    except Wrong as wrong:
        return wrong.place
    return None


def pruned(boxes):
    """Boxes without the free ones."""
    return tuple(
        (kind, pruned(content) if kind == "group" else content) for kind, content in boxes if kind != "free"
    )


def free_room(boxes):
    """How many cells belong to the free ones among boxes."""
    return sum(2 + content for kind, content in boxes_in(boxes) if kind == "free")


def random_boxes(rng, kinds, most=30):
    """Random boxes of the kinds, with at most so many cells; tables have targets if there is any data."""
    while True:
        boxes = random_row(rng, kinds, rng.randint(0, 5), 0)
        lengths = [len(content) for kind, content in boxes_in(boxes) if kind == "data"]
        cells = [(number, index) for number, length in enumerate(lengths) for index in range(length)]
        boxes = pointed(rng, boxes, cells)
        if len(written(boxes)) <= most:
            return boxes


def random_row(rng, kinds, many, around):
    row = []
    for kind in rng.choices(kinds, k=many):
        if kind == "group" and around == 2:
            kind = "data"
        if kind == "group":
            content = random_row(rng, kinds, rng.randint(0, 3), around + 1)
        elif kind == "data":
            content = tuple(rng.choice([0, 1, 2, 3, 4, 5, 7, 99]) for _ in range(rng.randint(0, 6)))
        else:
            content = rng.randint(0, 4)
        row.append((kind, content))
    return tuple(row)


def pointed(rng, boxes, cells):
    """Boxes whose tables have got targets in place of the number of these."""
    made = []
    for kind, content in boxes:
        if kind == "group":
            content = pointed(rng, content, cells)
        elif kind == "table":
            content = tuple(rng.choices(cells, k=content)) if cells else ()
        made.append((kind, content))
    return tuple(made)


def is_shape(value):
    """Whether a value is a shape, by writing it as a file and reading this: only a shape comes back the same."""
    if not isinstance(value, tuple) or not value:
        return False
    try:
        back = told(written(value))
    except (Wrong, TypeError, ValueError, KeyError, IndexError, AttributeError):
        return False
    if repr(back) != repr(value):
        return False
    boxes = boxes_in(back)
    small = all(kind == "group" or kind != "free" and len(content) <= 6 for kind, content in boxes)
    cells = [cell for kind, content in boxes if kind == "data" for cell in content]
    plain = all(cell.__class__ is int and 0 <= cell <= 99 for cell in cells)
    return small and plain and len(boxes) <= 6 and len(written(back)) <= 30


def gaps_in(boxes):
    return len(boxes) + 1 + sum(gaps_in(content) for kind, content in boxes if kind == "group")


def random_shape(rng):
    """A random shape."""
    while True:
        boxes = random_boxes(rng, SHAPE_KINDS)
        if is_shape(boxes):
            return boxes


def random_file(rng):
    """The cells of a random file, a list."""
    return written(random_boxes(rng, FILE_KINDS), rng.choice([0, 3, 7]))


def odd_values():
    """Values of all kinds that are neither rows of cells nor shapes, made anew."""
    return [
        None, True, False, 0, 1, -1, 99, 10 ** 40, "", "2", "data", "group", b"", b"\x02\x02", {}, {2: 2},
        {"data": ()}, set(), {2}, frozenset([2]), range(2), iter([2, 2]), object(), len, int,
        [None], [True, 2], [2, True], [False], (True, True), ["2", "2"], [[2, 2]], [[[[[]]]]], [()], [{}], [(2, 2)],
        [2, 2, None], [2, 2, [2, 2]], [2, 3, "7"], [2, 3, (7,)], [2, 3, True], [2, 3, False], [4, 3, {}], (None,),
        ({},), ("data",), (("data",),), [2, 3, -1], [2, 3, 100], [-1], [100], [10 ** 40], nested(900),
        ANY, [ANY], (ANY, ANY), (ANY, ()),
    ]


def nested(depth):
    value = []
    for _ in range(depth):
        value = [value]
    return value


def caught(error, action, *values):
    """The error of exactly this class that a call raises, None if it raises none."""
    try:
        action(*values)
    except error as found:
        return found if found.__class__ is error else None
    return None


def attempted(action, *values):
    """Make a call that may be refused."""
    try:
        action(*values)
    except ValueError:
        pass
