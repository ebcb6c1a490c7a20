"""The cells of a shape with gaps of some sizes, and what it costs to write them over a file."""

from boxshift.boxes import DATA, FREE, GROUP, HEAD, MOST_CELLS, TABLE, check_file
from boxshift.errors import BadGaps
from boxshift.shapes import cells_of, check_shape, count_gaps
from boxshift.values import is_between


class Layout:
    """What is known of a new file by the sizes of some first gaps of a shape, and what that costs."""

    def __init__(self, before, parts):
        self.before = before
        self.parts = parts
        # How many of the parts are laid out; the part after them is a gap, if there is one.
        self.done = 0
        self.gaps = ()
        # The cells up to the first gap whose size is not known, None for those that are not known.
        self.row = []
        self.begins = []
        # Where the contents of the data boxes begin, and the groups whose lengths are not known.
        self.starts = []
        self.opened = []
        # The places and targets of the entries that are not known.
        self.waiting = []
        self.cost = 0

    def is_whole(self):
        """Return whether the sizes of all gaps are known."""
        return self.done == len(self.parts)

    def with_gap(self, size):
        """Return a new layout for which the next gap has this size, too."""
        layout = self.copied()
        layout.gaps = (*self.gaps, size)
        layout.done += 1
        if size > 0:
            layout.put_free(size)
        layout.go_on()
        return layout

    def copied(self):
        """Return a layout that is like this one and independent of it."""
        layout = Layout(self.before, self.parts)
        layout.done = self.done
        layout.gaps = self.gaps
        layout.row = list(self.row)
        layout.begins = list(self.begins)
        layout.starts = list(self.starts)
        layout.opened = list(self.opened)
        layout.waiting = list(self.waiting)
        layout.cost = self.cost
        return layout

    def go_on(self):
        """Lay out the parts up to the next gap, or to the end."""
        while not self.is_whole() and self.parts[self.done][0] != "gap":
            kind, content = self.parts[self.done]
            if kind == "end":
                self.close_group()
            else:
                self.put_box(kind, content)
            self.done += 1
        self.settle_entries()

    def put_box(self, kind, content):
        """Lay out a box, of a group only the first two cells."""
        begin = len(self.row)
        length = HEAD + len(content)
        self.begins.append(begin)
        if kind == "group":
            self.opened.append(begin)
            self.put_cells([GROUP, None])
        elif kind == "data":
            self.starts.append(begin + HEAD)
            self.put_cells([DATA, length, *content])
        else:
            self.put_cells([TABLE, length] + [None] * len(content))
            for index, target in enumerate(content):
                self.waiting.append((begin + HEAD + index, target))

    def put_free(self, size):
        """Lay out a free box, in which there stays what stands there before."""
        self.put_cells([FREE, size])
        begin = len(self.row)
        kept = self.before[begin:begin + size - HEAD]
        self.put_cells(list(kept) + [0] * (size - HEAD - len(kept)))

    def close_group(self):
        """Write the length of the innermost group that is open, which ends here."""
        begin = self.opened.pop()
        self.set_cell(begin + 1, len(self.row) - begin)

    def settle_entries(self):
        """Write the entries whose targets stand somewhere by now."""
        waiting = []
        for place, target in self.waiting:
            number, index = target
            if number < len(self.starts):
                self.set_cell(place, self.starts[number] + index)
            else:
                waiting.append((place, target))
        self.waiting = waiting

    def put_cells(self, cells):
        """Lay out cells behind those that are there, None for those that are not known."""
        for cell in cells:
            self.row.append(None)
            if cell is not None:
                self.set_cell(len(self.row) - 1, cell)

    def set_cell(self, place, cell):
        """Tell the cell at a place, and count it if it is not there before."""
        self.row[place] = cell
        if place >= len(self.before) or self.before[place] != cell:
            self.cost += 1


def patched(cells, shape, gaps):
    """Return the new file, a tuple."""
    return tuple(whole_layout(cells, shape, gaps).row)


def cost_of(cells, shape, gaps):
    """Return what the new file costs."""
    return whole_layout(cells, shape, gaps).cost


def places(cells, shape, gaps):
    """Return the list of the places at which the boxes of the shape begin in the new file."""
    return whole_layout(cells, shape, gaps).begins


def known_cost(cells, shape, gaps):
    """Return the known cost for the sizes of some first gaps, from none to all."""
    return checked_layout(cells, shape, gaps).cost


def whole_layout(cells, shape, gaps):
    """Return the layout for the sizes of all gaps; raise an error if one of the arguments is wrong."""
    layout = checked_layout(cells, shape, gaps)
    if not layout.is_whole():
        raise BadGaps("no sizes of all gaps")
    return layout


def checked_layout(cells, shape, gaps):
    """Return the layout for the sizes of some first gaps; raise an error if one of the arguments is wrong."""
    check_file(cells)
    check_shape(shape)
    if not are_sizes(gaps, shape, MOST_CELLS):
        raise BadGaps("no sizes of some first gaps")
    return layout_of(cells, shape, gaps)


def layout_of(cells, shape, gaps):
    """Return the layout for the sizes of some first gaps."""
    layout = Layout(tuple(cells), parts_of(shape))
    for size in gaps:
        layout = layout.with_gap(size)
    return layout


def parts_of(boxes):
    """Return the list of boxes, gaps and ends of groups, as they stand in a file, each as a kind and a content."""
    parts = []
    for kind, content in boxes:
        parts.append(("gap", ()))
        if kind == "group":
            # What is in a group is parts of its own, so that its head is laid out without it.
            parts.append((kind, ()))
            parts.extend(parts_of(content))
            parts.append(("end", ()))
        else:
            parts.append((kind, content))
    parts.append(("gap", ()))
    return parts


def are_all_sizes(gaps, shape, room):
    """Return whether a value, of any kind, tells the sizes of all gaps of a shape, within a number of cells."""
    return are_sizes(gaps, shape, room) and len(gaps) == count_gaps(shape)


def are_sizes(gaps, shape, room):
    """Return whether a value, of any kind, tells the sizes of some first gaps of a shape, within a number of cells."""
    if not isinstance(gaps, (list, tuple)) or len(gaps) > count_gaps(shape):
        return False
    if not all([is_size(size) for size in gaps]):
        return False
    return cells_of(shape) + sum(gaps) <= room


def is_size(value):
    """Return whether a value, of any kind, can be the size of a gap in a file."""
    return is_between(value, 0, 0) or is_between(value, HEAD, MOST_CELLS)


def sizes_within(spare):
    """Return the ascending list of the sizes that a gap can have, if there are so many cells to spare."""
    return [0] + list(range(HEAD, spare + 1))
