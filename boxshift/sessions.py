"""Sessions: files that are edited, with a journal, undoing, branches and trials."""

from boxshift.boxes import MOST_CELLS, shape_of
from boxshift.edits import edited
from boxshift.errors import BadEdit, BadRoom, NothingDone
from boxshift.patches import MOST_SPARE, cheapest_layout
from boxshift.shapes import cells_of, check_shape
from boxshift.values import is_between

MOST_TRIED = 20


class Moment:
    """All that a session is at one time; it is never changed, so that several may hold it."""

    def __init__(self, files, pairs, kept, outer):
        # The file at first and after each edit, and each edit with its cost.
        self.files = files
        self.pairs = pairs
        # How many of the edits were made before the trial, and the moment before it, None outside of trials.
        self.kept = kept
        self.outer = outer


class Trial:
    """A with-block at whose end a session is as at its beginning."""

    def __init__(self, session):
        self.session = session

    def __enter__(self):
        session = self.session
        now = session.now
        session.now = Moment(now.files, now.pairs, len(now.pairs), now)
        return session

    def __exit__(self, kind, value, trace):
        session = self.session
        session.now = session.now.outer


class Session:
    """A file, a number of spare cells, and a journal of edits with their costs."""

    def __init__(self, cells, spare):
        check_shape(shape_of(cells))
        if not is_between(spare, 0, MOST_SPARE):
            raise BadRoom("no number of spare cells")
        self.spare = spare
        self.now = Moment((tuple(cells),), (), 0, None)

    def __len__(self):
        return len(self.now.pairs)

    @property
    def current(self):
        """The file, a tuple."""
        return self.now.files[-1]

    @property
    def journal(self):
        """The list of pairs of an edit and its cost."""
        return list(self.now.pairs)

    def contents(self):
        """Return the shape of the file."""
        return shape_of(self.current)

    def spent(self):
        """Return the sum of the costs in the journal."""
        return sum([cost for edit, cost in self.now.pairs])

    def edit(self, edit):
        """Make an edit and return its cost."""
        now = self.now
        shape = edited(self.contents(), edit)
        room = min(cells_of(shape) + self.spare, MOST_CELLS)
        best = cheapest_layout(self.current, shape, room)
        files = (*now.files, tuple(best.row))
        self.now = Moment(files, (*now.pairs, (edit, best.cost)), now.kept, now.outer)
        return best.cost

    def undo(self):
        """Take back the last edit and return the pair of it and its cost."""
        now = self.now
        if len(now.pairs) == now.kept:
            raise NothingDone("no edit to take back")
        self.now = Moment(now.files[:-1], now.pairs[:-1], now.kept, now.outer)
        return now.pairs[-1]

    def branch(self):
        """Return an independent session like this one, in which all edits can be undone."""
        now = self.now
        session = Session(self.current, self.spare)
        session.now = Moment(now.files, now.pairs, 0, None)
        return session

    def trial(self):
        """Return what gives this session in a with-block, at whose end all is as at its beginning."""
        return Trial(self)

    def tried(self, edits):
        """Make edits in a trial and return the list of their costs."""
        if not isinstance(edits, (list, tuple)) or len(edits) > MOST_TRIED:
            raise BadEdit("no row of a few edits")
        with self.trial() as inner:
            return [inner.edit(edit) for edit in edits]
