"""The nearest form to a row of cells that is perhaps no file, with floors that show that none is nearer."""

from boxshift.boxes import DATA, GROUP, HEAD, MOST_GROUPS_AROUND, TABLE, check_cells, is_cell, wrong_box
from boxshift.values import is_between

DEEPEST = 2
# The floor where there is no form; no row differs from another one at so many places.
NO_FORM = 31


class Near:
    """A form that differs from a row of cells at as few places as possible, and floors that show it."""

    def __init__(self, cells, floors):
        self.cells = tuple(cells)
        self.floors = {triple: floors[triple] for triple in floors}

    def __eq__(self, other):
        return isinstance(other, Near) and self.cells == other.cells and self.floors == other.floors

    def shows(self, cells):
        """Return whether the form and the floors are as they must be for a row of cells."""
        check_cells(cells)
        many = len(cells)
        if len(self.cells) != many or not all([is_cell(cell) for cell in self.cells]) or has_wrong_box(self.cells):
            return False
        if floor_of(self.floors, (0, many, 0)) < places_apart(cells, self.cells):
            return False
        for triple in self.floors:
            if not is_triple(triple, many) or not holds(cells, self.floors, triple):
                return False
        return True


def is_form(cells):
    """Return whether a row of cells is a form."""
    check_cells(cells)
    return not has_wrong_box(cells)


def nearest(cells):
    """Return a Near for a row of cells, None if there is no form."""
    check_cells(cells)
    if not has_form(cells):
        return None
    floors = floors_for(cells)
    return Near(nearest_form(cells, floors), floors)


def distance(cells):
    """Return at how many places a nearest form differs from a row of cells, None if there is no form."""
    check_cells(cells)
    if not has_form(cells):
        return None
    return floor_of(floors_for(cells), (0, len(cells), 0))


def has_wrong_box(cells):
    """Return whether there is a wrong box in a row of cells."""
    return wrong_box(cells, 0, len(cells), 0) is not None


def has_form(cells):
    """Return whether there is a form with as many cells as a row of cells."""
    # One data box can have all cells, except if there is only one.
    return len(cells) != 1


def places_apart(cells, others):
    """Return at how many places two rows of as many cells differ."""
    return len([cell for cell, other in zip(cells, others) if cell != other])


def floors_for(cells):
    """Return a dict from the triples that a nearest form can need to their greatest floors, if these are not 0."""
    many = len(cells)
    floors = {}
    for depth in range(DEEPEST, -1, -1):
        # Outside of groups, boxes go to the end of all.
        ends = list(range(many + 1)) if depth > 0 else [many]
        for end in ends:
            for begin in range(end - 1, -1, -1):
                floor = greatest_floor(cells, floors, (begin, end, depth))
                if floor > 0:
                    floors[(begin, end, depth)] = floor
    return floors


def greatest_floor(cells, floors, triple):
    """Return the greatest floor that a triple can have, by the floors of those that it depends on."""
    limits = [limit_by(cells, floors, triple, box) for box in first_boxes(triple)]
    return min(limits, default=NO_FORM)


def nearest_form(cells, floors):
    """Return a nearest form, a list, by the greatest floors."""
    form = list(cells)
    ahead = [(0, len(cells), 0)]
    while ahead:
        triple = ahead.pop()
        begin, end, depth = triple
        if begin < end:
            kind, length = best_box(cells, floors, triple)
            form[begin] = kind
            form[begin + 1] = length
            ahead.append((begin + length, end, depth))
            if kind == GROUP:
                ahead.append((begin + HEAD, begin + length, depth + 1))
    return form


def best_box(cells, floors, triple):
    """Return the kind and the length of the first box in a nearest form, by the greatest floors."""
    ranked = [(limit_by(cells, floors, triple, box), box) for box in first_boxes(triple)]
    return min(ranked)[1]


def first_boxes(triple):
    """Return a list of the kinds and lengths that the first box from begin to end can have."""
    begin, end, depth = triple
    lowest = GROUP if depth <= MOST_GROUPS_AROUND else DATA
    return [(kind, length) for kind in range(lowest, TABLE + 1) for length in range(HEAD, end - begin + 1)]


def limit_by(cells, floors, triple, box):
    """Return what the floor of a triple is at most, by the first box being of some kind and length."""
    begin, end, depth = triple
    kind, length = box
    limit = floor_of(floors, (begin + length, end, depth))
    if cells[begin] != kind:
        limit += 1
    if cells[begin + 1] != length:
        limit += 1
    if kind == GROUP:
        limit += floor_of(floors, (begin + HEAD, begin + length, depth + 1))
    return limit


def floor_of(floors, triple):
    """Return the floor of a triple, 0 where there is none or a lower one."""
    return max(0, floors.get(triple, 0))


def is_triple(triple, many):
    """Return whether a triple is a begin, an end and a depth for a row of so many cells."""
    begin, end, depth = triple
    return 0 <= begin <= end <= many and is_between(depth, 0, DEEPEST)


def holds(cells, floors, triple):
    """Return whether the floor of a triple is not too high, by the floors of those that it depends on."""
    begin, end, _ = triple
    floor = floors[triple]
    if floor <= 0:
        return True
    if begin == end:
        return False
    return all([floor <= limit_by(cells, floors, triple, box) for box in first_boxes(triple)])
