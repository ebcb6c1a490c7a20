"""Files as texts, with a line for each box."""

from boxshift.boxes import HEAD, MOST_CELLS, MOST_GROUPS_AROUND, read
from boxshift.errors import BadText
from boxshift.layouts import Layout
from boxshift.shapes import is_target

INDENT = "  "
MOST_DIGITS = 2


def file_text(cells):
    """Return the text of a file."""
    return "".join([line + "\n" for line in lines_of(read(cells), "")])


def lines_of(boxes, indent):
    """Return the list of the lines of boxes, and of those in groups among them, without the line feeds."""
    lines = []
    for kind, content in boxes:
        lines.append(indent + " ".join([kind, *words_of(kind, content)]))
        if kind == "group":
            lines.extend(lines_of(content, indent + INDENT))
    return lines


def words_of(kind, content):
    """Return the list of the words that stand behind the kind in the line of a box."""
    if kind == "group":
        return []
    if kind == "free":
        return [str(content)]
    if kind == "data":
        return [str(cell) for cell in content]
    return [f"{number}.{index}" for number, index in content]


def read_file(text):
    """Return the file of a text, a tuple."""
    if not isinstance(text, str):
        raise BadText(0)
    *lines, rest = text.split("\n")
    boxes = []
    # A text is laid out like a new file over the one without cells.
    layout = Layout((), [])
    for row, line in enumerate(lines):
        box = box_of(line.lstrip(" "))
        if box is None or not can_begin(line, box[0], len(layout.opened)):
            raise BadText(row)
        close_groups(layout, spaces_of(line) // len(INDENT))
        put_line(layout, box)
        if len(layout.row) > MOST_CELLS:
            raise BadText(row)
        boxes.append(box)
    if rest != "":
        raise BadText(len(lines))
    check_entries(boxes)
    close_groups(layout, 0)
    layout.settle_entries()
    return tuple(layout.row)


def box_of(told):
    """Return the box of a line without the spaces before it, None if this has not the form of one."""
    kind, *words = told.split(" ")
    if kind == "group" and not words:
        return (kind, ())
    if kind == "data" and all([is_number(word) for word in words]):
        return (kind, tuple([int(word) for word in words]))
    if kind == "free" and len(words) == 1 and is_number(words[0]):
        return (kind, int(words[0]))
    if kind == "table" and all([is_entry(word) for word in words]):
        return (kind, tuple([target_of(word) for word in words]))
    return None


def is_number(word):
    """Return whether a word is a number from 0 to 99 as it is written in a text."""
    # Other characters are digits for Python, too, and it refuses to read very many of them.
    if not word.isascii() or not word.isdigit() or len(word) > MOST_DIGITS:
        return False
    return word == str(int(word))


def is_entry(word):
    """Return whether a word is an entry as it is written in a text, whatever its target."""
    number, _, index = word.partition(".")
    return is_number(number) and is_number(index)


def target_of(word):
    """Return the target of an entry."""
    number, _, index = word.partition(".")
    return (int(number), int(index))


def spaces_of(line):
    """Return with how many spaces a line begins."""
    return len(line) - len(line.lstrip(" "))


def can_begin(line, kind, around):
    """Return whether a line for a box of a kind can begin as it does, behind a line with so many groups open."""
    spaces = spaces_of(line)
    if spaces not in [len(INDENT) * depth for depth in range(around + 1)]:
        return False
    return kind != "group" or spaces <= len(INDENT) * MOST_GROUPS_AROUND


def close_groups(layout, depth):
    """End groups in a layout until only so many are open."""
    while len(layout.opened) > depth:
        layout.close_group()


def put_line(layout, box):
    """Lay out the box of a line, of a group only the first two cells."""
    kind, content = box
    if kind == "free":
        layout.put_free(HEAD + content)
    else:
        layout.put_box(kind, content)


def check_entries(boxes):
    """Raise BadText for the first one of boxes, one for each line, that has an entry without a cell."""
    lengths = [len(content) for kind, content in boxes if kind == "data"]
    for row, (kind, content) in enumerate(boxes):
        if kind == "table" and not all([is_target(target, lengths) for target in content]):
            raise BadText(row)
