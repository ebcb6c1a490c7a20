"""Data boxes that become longer or shorter in their places, at the cost of the free boxes directly after them."""

from boxshift.boxes import DATA, FREE, GROUP, HEAD, TABLE, box_places, check_file, content_places, is_cell
from boxshift.errors import BadBox, BadGrowth
from boxshift.layouts import is_size
from boxshift.values import is_between


def growths(cells, number):
    """Return the ascending list of the integers by which the content of a data box can become longer in its place."""
    return growths_at(cells, data_at(cells, number))


def grown(cells, number, content):
    """Return the file in which a data box has got another content in its place, a tuple."""
    at = data_at(cells, number)
    if not can_hold(cells, at, content):
        raise BadGrowth("no content that the data box can get in its place")
    row = list(cells)
    length = HEAD + len(content)
    end = at + length
    row[at:end] = [DATA, length, *content]
    free = free_after(cells, at) + cells[at + 1] - length
    if free > 0:
        # What is in the free box is left as it stands there.
        row[end:end + HEAD] = [FREE, free]
    return tuple(row)


def tight(cells):
    """Return the ascending list of the numbers of the data boxes that cannot become longer by one cell."""
    check_file(cells)
    return [number for number, at in enumerate(box_places(cells, DATA)) if 1 not in growths_at(cells, at)]


def data_at(cells, number):
    """Return the place at which a data box begins; raise an error if there is no such file or no such box."""
    check_file(cells)
    begins = box_places(cells, DATA)
    if not is_between(number, 0, len(begins) - 1):
        raise BadBox("no number of a data box")
    return begins[number]


def growths_at(cells, at):
    """Return the ascending list of the integers by which the data box at a place can become longer."""
    free = free_after(cells, at)
    shorter = HEAD - cells[at + 1]
    return [more for more in range(shorter, free + 1) if is_size(free - more)]


def free_after(cells, at):
    """Return the length of the free box directly after the box at a place, in the same group; 0 if there is none."""
    end = at + cells[at + 1]
    # What begins where a group ends is not in this group.
    ends = [group + cells[group + 1] for group in box_places(cells, GROUP)]
    if end == len(cells) or end in ends or cells[end] != FREE:
        return 0
    return cells[end + 1]


def can_hold(cells, at, content):
    """Return whether the data box at a place can get a content, which is a value of any kind, in its place."""
    if not isinstance(content, (list, tuple)):
        return False
    if HEAD + len(content) - cells[at + 1] not in growths_at(cells, at):
        return False
    if not all([is_cell(cell) for cell in content]):
        return False
    gone = content_places(cells, at)[len(content):]
    return not any([entry in gone for entry in entries_of(cells)])


def entries_of(cells):
    """Return the list of the entries of all tables."""
    return [cells[place] for at in box_places(cells, TABLE) for place in content_places(cells, at)]
