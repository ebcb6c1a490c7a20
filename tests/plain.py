"""Plain answers of the tests' own for growing, edits, sessions and texts, by the words alone."""

import re

from tests.oracles import first_least, with_free
from tests.support import boxes_in, is_shape, pruned, told, written

NUMBER = "(?:0|[1-9][0-9]?)"
FORMS = {
    "group": "group",
    "data": f"data(?: {NUMBER})*",
    "free": f"free {NUMBER}",
    "table": f"table(?: {NUMBER}[.]{NUMBER})*",
}


def put_in(boxes, number, content, free):
    """Boxes in which a data box has a content and a free box after it, or none; and the number for the data after."""
    made = []
    passing = False
    for kind, inner in boxes:
        if passing and kind == "free":
            passing = False
            continue
        passing = False
        if kind == "group":
            inner, number = put_in(inner, number, content, free)
        made.append((kind, inner))
        if kind == "data":
            if number == 0:
                made[-1] = (kind, content)
                made += [] if free is None else [("free", free)]
                passing = True
            number -= 1
    return made, number


def grown(cells, number, content, entries=True):
    """The file in which a data box has got a content in its place, None if this is not possible."""
    boxes = told(cells)
    targets = [target for kind, inner in boxes_in(boxes) if kind == "table" for target in inner]
    if entries and any(one == number and index >= len(content) for one, index in targets):
        return None
    for free in [None, *range(29)]:
        made, _ = put_in(boxes, number, tuple(content), free)
        row = written(made, None)
        if len(row) == len(cells):
            return tuple(cells[at] if cell is None else cell for at, cell in enumerate(row))
        if len(row) > len(cells) + 2:
            return None
    return None


def growths(cells, number):
    many = len([content for kind, content in boxes_in(told(cells)) if kind == "data"][number])
    return [more for more in range(-many, 31) if grown(cells, number, (0,) * (many + more), False)]


class Node:
    """A box that stays itself wherever it is put; the items of a table are data boxes and indices in them."""

    def __init__(self, kind, items):
        self.kind = kind
        self.items = items


def nodes_of(boxes):
    return [Node(kind, nodes_of(content) if kind == "group" else list(content)) for kind, content in boxes]


def walk(nodes):
    """All nodes, each with the list in which it is."""
    for node in list(nodes):
        yield node, nodes
        if node.kind == "group":
            yield from walk(node.items)


def boxes_of(nodes, data):
    made = []
    for node in nodes:
        if node.kind == "group":
            content = boxes_of(node.items, data)
        elif node.kind == "table":
            content = tuple((data.index(box), index) if box in data else None for box, index in node.items)
        else:
            content = tuple(node.items)
        made.append((node.kind, content))
    return tuple(made)


def edited(shape, edit):
    """The shape after an edit whose parts are of the right kinds, None if it is no edit of the shape."""
    top = nodes_of(shape)
    every = [node for node, _ in walk(top)]
    data = [node for node in every if node.kind == "data"]
    tables = [node for node in every if node.kind == "table"]
    for table in tables:
        table.items = [(data[number], index) for number, index in table.items]
    kind, at = edit[:2]
    places = [(table, index) for table in tables for index in range(len(table.items))]
    many = {"fill": len(data), "point": len(places), "drop": len(every), "add": len(every) + 1}[kind]
    if not 0 <= at < many:
        return None
    if kind == "fill":
        data[at].items = list(edit[2])
    elif kind == "point":
        number, index = edit[2]
        if not 0 <= number < len(data):
            return None
        table, place = places[at]
        table.items[place] = (data[number], index)
    elif kind == "drop":
        row = [row for _, row in walk(top)][at]
        row.remove(every[at])
    elif at == len(every):
        top.append(Node("data", list(edit[2])))
    else:
        row = [row for _, row in walk(top)][at]
        row.insert(row.index(every[at]), Node("data", list(edit[2])))
    after = boxes_of(top, [node for node, _ in walk(top) if node.kind == "data"])
    return after if is_shape(after) else None


def random_edit(rng, shape):
    """An edit whose parts are of the right kinds, perhaps not one of the shape."""
    boxes = boxes_in(shape)
    lengths = [len(content) for kind, content in boxes if kind == "data"]
    entries = sum(len(content) for kind, content in boxes if kind == "table")
    cells = tuple(rng.choice([0, 1, 2, 3, 4, 5, 7, 99]) for _ in range(rng.choice([0, 1, 2, 3, 4, 5, 6, 7])))
    kind = rng.choice(["fill", "point", "point", "drop", "add"])
    if kind == "fill":
        return (kind, rng.randint(-1, len(lengths)), cells)
    if kind == "point" and entries:
        number = rng.randint(-1, len(lengths) - 1)
        return (kind, rng.randint(0, entries), (number, rng.choice([-1, 0, 0, 1, 1, 2, 3])))
    if kind == "drop":
        return (kind, rng.randint(-1, len(boxes)))
    return (kind, rng.randint(-1, len(boxes) + 1), cells)


class PlainSession:
    """A session that keeps whole copies of what it was."""

    def __init__(self, cells, spare):
        self.spare = spare
        self.files = [tuple(cells)]
        self.pairs = []
        self.trials = []

    def edit(self, edit):
        """The cost of an edit, None if it is refused."""
        cells = self.files[-1]
        shape = edited(pruned(told(cells)), edit)
        if shape is None:
            return None
        room = min(len(written(shape)) + self.spare, 30)
        cost, gaps = first_least(cells, shape, room)
        row = written(with_free(shape, iter(gaps)), None)
        after = [(*cells, *[0] * 30)[at] if cell is None else cell for at, cell in enumerate(row)]
        self.files.append(tuple(after))
        self.pairs.append((edit, cost))
        return cost

    def undo(self):
        if len(self.pairs) == (len(self.trials[-1][1]) if self.trials else 0):
            return None
        self.files.pop()
        return self.pairs.pop()

    def begin(self):
        self.trials.append((list(self.files), list(self.pairs)))

    def end(self):
        self.files, self.pairs = self.trials.pop()

    def branch(self):
        other = PlainSession(self.files[0], self.spare)
        other.files = list(self.files)
        other.pairs = list(self.pairs)
        return other


def text_of(boxes, indent=""):
    """The text of boxes."""
    text = ""
    for kind, content in boxes:
        if kind == "group":
            words = ""
        elif kind == "free":
            words = f" {content}"
        elif kind == "data":
            words = "".join(f" {cell}" for cell in content)
        else:
            words = "".join(f" {number}.{index}" for number, index in content)
        text += f"{indent}{kind}{words}\n"
        if kind == "group":
            text += text_of(content, indent + "  ")
    return text


def file_of(text):
    """The file of a text, or the index of the first wrong line."""
    rows = re.findall("[^\n]*\n", text)
    top = []
    rests = [top]
    cells = 0
    for at, row in enumerate(rows):
        kind, depth, words = line_of(row[:-1])
        if kind is None or depth >= len(rests) or (kind == "group" and depth == 2):
            return at
        del rests[depth + 1:]
        content = content_of(kind, words)
        rests[depth].append((kind, content))
        if kind == "group":
            rests.append(content)
        cells += 2 + (content if kind == "free" else len(content))
        if cells > 30:
            return at
    if text[len("".join(rows)):]:
        return len(rows)
    lengths = [len(content) for kind, content in boxes_in(top) if kind == "data"]
    for at, (kind, content) in enumerate(boxes_in(top)):
        if kind == "table" and not all(number < len(lengths) and index < lengths[number] for number, index in content):
            return at
    return tuple(written(top, 0))


def line_of(line):
    """The kind, the depth and the words of a line; None as the kind if it has not the form of one."""
    for kind, form in FORMS.items():
        if found := re.fullmatch(f"((?:  )*)({form})", line):
            return kind, len(found[1]) // 2, found[2].split(" ")[1:]
    return None, 0, []


def content_of(kind, words):
    if kind == "group":
        return []
    if kind == "free":
        return int(words[0])
    if kind == "data":
        return [int(word) for word in words]
    return [tuple(map(int, word.split("."))) for word in words]
