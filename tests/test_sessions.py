"""Sessions: edits, undoing, branches and trials by hand, at each edge, against the plain session, and refused."""

import copy
import random
import unittest
from unittest.mock import ANY

from boxshift.boxes import shape_of
from boxshift.errors import BadEdit, BadFile, BadRoom, BadShape, NothingDone
from boxshift.forms import Near
from boxshift.patches import Patch
from boxshift.sessions import Session
from tests import plain
from tests.oracles import likely_file, wrong_order
from tests.support import attempted, boxes_in, caught, is_shape, odd_values, pruned, random_shape, told

CELLS = [2, 4, 7, 8, 3, 4, 0, 0, 4, 3, 2]
FILL = ("fill", 0, (7, 8, 9, 9))
POINT = ("point", 0, (0, 1))
DROP = ("drop", 1)
ADD = ("add", 2, (5,))
WRONG = [("fill", 0, ()), ("fill", 1, (5,)), ("fill", 0, (1,) * 7), ("point", 0, (0, 2)), ("point", 1, (0, 0)),
         ("drop", 0), ("drop", 2), ("add", 3, ()), ("add", 0, [5]), ("add", True, (5,)), ["drop", 1], ()]


class Stop(Exception):
    """What leaves a trial."""


class Sessions(unittest.TestCase):
    def check_session(self, session, files, pairs):
        """All that a session says, when it has been through these files by edits with these costs."""
        self.assertEqual(repr(session.current), repr(tuple(files[-1])))
        self.assertEqual(repr(session.journal), repr(list(pairs)))
        self.assertEqual(repr(len(session)), repr(len(pairs)))
        self.assertEqual(repr(session.contents()), repr(pruned(told(files[-1]))))
        self.assertEqual(repr(session.spent()), repr(sum(cost for _, cost in pairs)))

    def check_undone(self, session, pair):
        self.assertEqual(repr(session.undo()), repr(pair))

    def check_not_undone(self, session):
        before = told_of(session)
        self.assertIsNotNone(caught(NothingDone, session.undo))
        self.assertEqual(told_of(session), before)


def told_of(session):
    return repr([session.current, session.journal, len(session), session.contents(), session.spent()])


class ExampleTest(Sessions):
    def test_word_for_word(self):
        cells = [2, 4, 7, 8, 3, 4, 0, 0, 4, 3, 2]
        session = Session(cells, 4)
        done = [session.tried([('point', 0, (0, 1))]), session.edit(('fill', 0, (7, 8, 9, 9))), session.current, session.spent(), session.undo()]
        self.assertEqual(repr(done), "[[1], 5, (2, 6, 7, 8, 9, 9, 3, 2, 4, 3, 2), 5, (('fill', 0, (7, 8, 9, 9)), 5)]")


class NewSessionTest(Sessions):
    def test_it_has_no_edits(self):
        for cells in [CELLS, tuple(CELLS), [2, 2], [1, 2], [3, 2, 4, 2], [1, 6, 1, 4, 2, 2], [2, 8, 1, 1, 1, 1, 1, 1]]:
            for spare in [0, 4, 8]:
                self.check_session(Session(cells, spare), [cells], [])
                self.check_not_undone(Session(cells, spare))

    def test_more_free_cells_than_spare_ones(self):
        session = Session([2, 3, 5, 3, 27] + [6] * 25, 0)
        self.check_session(session, [[2, 3, 5, 3, 27] + [6] * 25], [])
        self.assertEqual(session.edit(("fill", 0, (7,))), 1)
        self.check_session(session, [[2, 3, 7]], [(("fill", 0, (7,)), 1)])

    def test_the_cells_are_not_kept(self):
        cells = list(CELLS)
        session = Session(cells, 4)
        cells[2:4] = [0, 0]
        self.check_session(session, [CELLS], [])
        self.assertEqual(session.edit(("fill", 0, (7, 8))), 0)


class EditTest(Sessions):
    def test_each_kind(self):
        for edit, cost, after in [
            (FILL, 5, [2, 6, 7, 8, 9, 9, 3, 2, 4, 3, 2]),
            (POINT, 1, [2, 4, 7, 8, 3, 4, 0, 0, 4, 3, 3]),
            (DROP, 0, [2, 4, 7, 8]),
            (ADD, 3, [2, 4, 7, 8, 3, 4, 0, 0, 4, 3, 2, 2, 3, 5]),
            (("fill", 0, (7, 8)), 0, CELLS),
        ]:
            session = Session(CELLS, 4)
            self.assertEqual(repr(session.edit(edit)), repr(cost))
            self.check_session(session, [after], [(edit, cost)])

    def test_edits_in_turn(self):
        session = Session(CELLS, 4)
        self.assertEqual([session.edit(edit) for edit in [FILL, POINT, ("drop", 1)]], [5, 1, 0])
        self.check_session(session, [[2, 6, 7, 8, 9, 9]], [(FILL, 5), (POINT, 1), (("drop", 1), 0)])
        self.assertEqual(session.spent(), 6)

    def test_spare_cells(self):
        for spare, cost, after in [
            (0, 6, [2, 6, 7, 8, 9, 9, 4, 3, 2]),
            (1, 6, [2, 6, 7, 8, 9, 9, 4, 3, 2]),
            (2, 5, [2, 6, 7, 8, 9, 9, 3, 2, 4, 3, 2]),
            (8, 5, [2, 6, 7, 8, 9, 9, 3, 2, 4, 3, 2]),
        ]:
            session = Session(CELLS, spare)
            self.assertEqual(session.edit(FILL), cost)
            self.check_session(session, [after], [(FILL, cost)])

    def test_eight_spare_cells(self):
        cells = [3, 8, 1, 1, 1, 1, 1, 1, 4, 3, 13, 2, 4, 6, 6]
        session = Session(cells, 8)
        self.assertEqual(session.edit(("fill", 0, (6, 7))), 1)
        self.check_session(session, [cells[:14] + [7]], [(("fill", 0, (6, 7)), 1)])
        session = Session(cells, 7)
        self.assertEqual(session.edit(("fill", 0, (6, 7))), 7)
        self.check_session(session, [[4, 3, 5, 2, 4, 6, 7]], [(("fill", 0, (6, 7)), 7)])

    def test_a_room_that_is_cut_at_thirty_cells(self):
        data = [2, 8, 1, 1, 1, 1, 1, 1, 2, 8, 3, 3, 3, 3, 3, 3]
        cells = [3, 8, 0, 0, 0, 0, 0, 0, *data, 2, 2]
        # With a free box of eight cells this would cost 7, but the file would have 32 cells.
        for many, cost, size in [(6, 17, 6), (5, 14, 7), (4, 5, 8)]:
            session = Session(cells, 8)
            edit = ("fill", 2, (9,) * many)
            self.assertEqual(session.edit(edit), cost)
            after = [3, size] + [0] * (size - 2) + data + [2, 2 + many] + [9] * many
            self.check_session(session, [after], [(edit, cost)])
        session = Session(cells, 7)
        self.assertEqual(session.edit(("fill", 2, (9,) * 4)), 13)

    def test_thirty_cells_without_gaps(self):
        session = Session([2, 8, 1, 1, 1, 1, 1, 1] * 3 + [2, 2], 8)
        edit = ("fill", 3, (5,) * 4)
        self.assertEqual(session.edit(edit), 5)
        self.check_session(session, [[2, 8, 1, 1, 1, 1, 1, 1] * 3 + [2, 6, 5, 5, 5, 5]], [(edit, 5)])
        self.assertIsNotNone(caught(BadEdit, session.edit, ("fill", 3, (5,) * 5)))
        self.assertIsNotNone(caught(BadEdit, session.edit, ("add", 4, ())))
        self.assertEqual(session.edit(("fill", 3, (6,) * 4)), 4)

    def test_the_first_of_the_sizes_that_cost_least(self):
        # A free box at the end costs nothing here, and one before the data costs as much as none.
        session = Session([2, 3, 5, 3, 3, 1], 8)
        self.assertEqual(session.edit(("fill", 0, (6,))), 1)
        self.assertEqual(session.current, (2, 3, 6))
        session = Session([3, 2, 2, 2], 8)
        self.assertEqual(session.edit(("fill", 0, ())), 0)
        self.assertEqual(session.current, (3, 2, 2, 2))
        session = Session([1, 4, 3, 2, 2, 3, 5], 8)
        self.assertEqual(session.edit(("fill", 0, (5,))), 0)
        self.assertEqual(session.current, (1, 4, 3, 2, 2, 3, 5))

    def test_edits_that_are_refused(self):
        session = Session(CELLS, 4)
        session.edit(POINT)
        before = told_of(session)
        for edit in [*WRONG, *odd_values()]:
            self.assertIsNotNone(caught(BadEdit, session.edit, edit), edit)
            self.assertEqual(told_of(session), before)
        self.check_undone(session, (POINT, 1))
        self.check_session(session, [CELLS], [])

    def test_an_edit_of_another_shape(self):
        session = Session(CELLS, 4)
        session.edit(DROP)
        self.assertIsNotNone(caught(BadEdit, session.edit, POINT))
        self.assertEqual(session.edit(("fill", 0, ())), 1)
        self.assertEqual(session.contents(), (("data", ()),))

    def test_in_groups(self):
        cells = [1, 9, 1, 7, 2, 3, 5, 3, 2, 4, 3, 6]
        session = Session(cells, 4)
        edit = ("fill", 0, (5, 6, 7))
        self.assertEqual(session.edit(edit), 3)
        self.check_session(session, [[1, 9, 1, 7, 2, 5, 5, 6, 7, 4, 3, 6]], [(edit, 3)])
        self.check_undone(session, (edit, 3))
        self.check_session(session, [cells], [])


class UndoTest(Sessions):
    def test_all_edits(self):
        session = Session(CELLS, 4)
        files = [CELLS]
        pairs = []
        for edit in [FILL, POINT, ADD, ("drop", 1), ("fill", 1, ())]:
            pairs.append((edit, session.edit(edit)))
            files.append(session.current)
        while pairs:
            self.check_session(session, files, pairs)
            self.check_undone(session, pairs.pop())
            files.pop()
        self.check_session(session, [CELLS], [])
        self.check_not_undone(session)

    def test_the_cells_in_free_boxes_come_back(self):
        cells = [2, 3, 5, 3, 5, 9, 8, 7, 4, 2]
        session = Session(cells, 0)
        self.assertEqual(session.edit(("drop", 0)), 2)
        self.assertEqual(session.current, (4, 2))
        session.undo()
        self.check_session(session, [cells], [])
        self.assertEqual(Session(cells, 5).edit(("fill", 0, (6,))), 1)

    def test_an_edit_after_undoing(self):
        session = Session(CELLS, 4)
        session.edit(FILL)
        session.undo()
        self.assertEqual(session.edit(POINT), 1)
        self.check_session(session, [CELLS[:10] + [3]], [(POINT, 1)])


class ReturnedTest(Sessions):
    def test_the_journal_is_new(self):
        session = Session(CELLS, 4)
        session.edit(FILL)
        journal = session.journal
        session.journal.clear()
        self.assertEqual(session.journal, [(FILL, 5)])
        session.edit(POINT)
        self.assertEqual(journal, [(FILL, 5)])
        journal.append(None)
        self.check_undone(session, (POINT, 1))
        self.assertEqual(session.journal, [(FILL, 5)])

    def test_reading_changes_nothing(self):
        session = Session(CELLS, 4)
        session.edit(FILL)
        self.assertEqual(told_of(session), told_of(session))

    def test_properties(self):
        for name in ["current", "journal"]:
            self.assertIsInstance(vars(Session)[name], property)

    def test_objects_of_other_classes(self):
        session = Session(CELLS, 4)
        for other in [Patch((), None), Near((), {}), CELLS, None, session.trial()]:
            self.assertFalse(session == other)
            self.assertTrue(session != other)


class BranchTest(Sessions):
    def test_it_is_like_the_session(self):
        session = Session(CELLS, 4)
        session.edit(FILL)
        session.edit(POINT)
        branch = session.branch()
        self.assertIs(branch.__class__, Session)
        self.assertIsNot(branch, session)
        self.assertEqual(told_of(branch), told_of(session))
        self.check_undone(branch, (POINT, 1))
        self.check_undone(branch, (FILL, 5))
        self.check_session(branch, [CELLS], [])
        self.check_not_undone(branch)

    def test_they_are_independent(self):
        session = Session(CELLS, 4)
        session.edit(FILL)
        branch = session.branch()
        branch.edit(POINT)
        session.edit(DROP)
        self.assertEqual(session.journal, [(FILL, 5), (DROP, 0)])
        self.assertEqual(branch.journal, [(FILL, 5), (POINT, 1)])
        branch.undo()
        branch.undo()
        self.check_session(session, [[2, 6, 7, 8, 9, 9]], [(FILL, 5), (DROP, 0)])
        session.undo()
        session.undo()
        branch.edit(POINT)
        self.check_session(session, [CELLS], [])

    def test_it_has_the_same_spare_cells(self):
        for spare, cost in [(0, 6), (2, 5)]:
            self.assertEqual(Session(CELLS, spare).branch().edit(FILL), cost)

    def test_a_branch_of_a_branch(self):
        session = Session(CELLS, 4)
        session.edit(FILL)
        branch = session.branch().branch()
        self.check_undone(branch, (FILL, 5))
        self.assertEqual(len(session), 1)

    def test_branches_made_in_a_trial(self):
        session = Session(CELLS, 4)
        session.edit(FILL)
        with session.trial():
            session.edit(POINT)
            branch = session.branch()
            other = session.branch()
            self.check_undone(branch, (POINT, 1))
            self.check_undone(branch, (FILL, 5))
            self.check_session(branch, [CELLS], [])
            self.assertEqual(len(session), 2)
            branch.edit(DROP)
            self.check_undone(session, (POINT, 1))
            self.check_not_undone(session)
        self.check_session(session, [[2, 6, 7, 8, 9, 9, 3, 2, 4, 3, 2]], [(FILL, 5)])
        self.check_session(branch, [[2, 4, 7, 8]], [(DROP, 0)])
        self.check_session(other, [[2, 6, 7, 8, 9, 9, 3, 2, 4, 3, 3]], [(FILL, 5), (POINT, 1)])
        for pair in [(POINT, 1), (FILL, 5)]:
            self.check_undone(other, pair)
        self.check_session(other, [CELLS], [])

    def test_a_trial_of_a_branch(self):
        session = Session(CELLS, 4)
        branch = session.branch()
        with branch.trial():
            branch.edit(POINT)
            session.edit(FILL)
            with session.trial():
                session.edit(POINT)
                branch.edit(FILL)
        self.check_session(branch, [CELLS], [])
        self.assertEqual(session.journal, [(FILL, 5)])


class TrialTest(Sessions):
    def setUp(self):
        self.session = Session(CELLS, 4)
        self.session.edit(FILL)
        self.before = told_of(self.session)

    def check_as_before(self):
        self.assertEqual(told_of(self.session), self.before)
        self.check_undone(self.session, (FILL, 5))
        self.check_session(self.session, [CELLS], [])
        self.check_not_undone(self.session)

    def test_it_gives_the_session_itself(self):
        with self.session.trial() as inner:
            self.assertIs(inner, self.session)
            self.assertEqual(told_of(self.session), self.before)
            self.assertEqual(inner.edit(POINT), 1)
            self.assertEqual(len(self.session), 2)
            self.assertEqual(self.session.spent(), 6)
        self.check_as_before()

    def test_without_edits(self):
        with self.session.trial():
            pass
        self.check_as_before()

    def test_an_error_that_leaves_it(self):
        error = Stop()
        with self.assertRaises(Stop) as found:
            with self.session.trial() as inner:
                inner.edit(POINT)
                raise error
        self.assertIs(found.exception, error)
        self.check_as_before()

    def test_an_error_of_the_session_that_leaves_it(self):
        for action in [lambda inner: inner.edit(()), lambda inner: [inner.undo(), inner.undo()],
                       lambda inner: inner.tried([POINT, ()])]:
            with self.assertRaises((BadEdit, NothingDone)):
                with self.session.trial() as inner:
                    inner.edit(POINT)
                    action(inner)
            self.assertEqual(told_of(self.session), self.before)
        self.check_as_before()

    def test_an_error_that_is_caught_in_it(self):
        with self.session.trial() as inner:
            inner.edit(POINT)
            self.assertIsNotNone(caught(BadEdit, inner.edit, ()))
            self.assertEqual(inner.edit(DROP), 0)
            self.assertEqual(len(inner), 3)
        self.check_as_before()

    def test_other_ways_to_leave_it(self):
        def left_by_return(session):
            with session.trial() as inner:
                return inner.edit(POINT)

        self.assertEqual(left_by_return(self.session), 1)
        self.assertEqual(told_of(self.session), self.before)
        for edit in [POINT, DROP]:
            with self.session.trial() as inner:
                inner.edit(edit)
                continue
        while True:
            with self.session.trial() as inner:
                inner.edit(POINT)
                break
        for error in [KeyboardInterrupt, GeneratorExit, StopIteration]:
            with self.assertRaises(error):
                with self.session.trial() as inner:
                    inner.edit(POINT)
                    raise error
        self.check_as_before()

    def test_undoing_in_it(self):
        with self.session.trial() as inner:
            self.check_not_undone(inner)
            inner.edit(POINT)
            inner.edit(DROP)
            self.check_undone(inner, (DROP, 0))
            self.check_undone(inner, (POINT, 1))
            self.check_not_undone(inner)
            inner.edit(DROP)
        self.check_as_before()

    def test_undoing_behind_it(self):
        with self.session.trial() as inner:
            inner.edit(POINT)
        self.check_undone(self.session, (FILL, 5))
        with self.session.trial() as inner:
            inner.edit(POINT)
            inner.undo()
            self.check_not_undone(inner)
        self.check_session(self.session, [CELLS], [])
        self.check_not_undone(self.session)

    def test_trials_within_one_another(self):
        with self.session.trial() as outer:
            outer.edit(POINT)
            between = told_of(outer)
            with outer.trial() as inner:
                self.assertIs(inner, self.session)
                self.check_not_undone(inner)
                inner.edit(DROP)
                with inner.trial() as innermost:
                    self.check_not_undone(innermost)
                    innermost.edit(("fill", 0, ()))
                self.check_undone(inner, (DROP, 0))
                self.check_not_undone(inner)
                inner.edit(ADD)
            self.assertEqual(told_of(outer), between)
            self.check_undone(outer, (POINT, 1))
            self.check_not_undone(outer)
            with outer.trial():
                self.check_not_undone(outer)
            outer.edit(DROP)
        self.check_as_before()

    def test_an_error_that_leaves_the_inner_one(self):
        with self.session.trial() as outer:
            outer.edit(POINT)
            with self.assertRaises(Stop):
                with outer.trial() as inner:
                    inner.edit(DROP)
                    raise Stop
            self.check_undone(outer, (POINT, 1))
        self.check_as_before()

    def test_an_error_that_leaves_both(self):
        with self.assertRaises(Stop):
            with self.session.trial() as outer:
                outer.edit(POINT)
                with outer.trial() as inner:
                    inner.edit(DROP)
                    raise Stop
        self.check_as_before()

    def test_many_within_one_another(self):
        def go_in(depth):
            with self.session.trial() as inner:
                inner.edit(("fill", 0, (depth % 100,)))
                if depth:
                    go_in(depth - 1)
                self.assertEqual(inner.journal[-1][0], ("fill", 0, (depth % 100,)))

        go_in(100)
        self.check_as_before()

    def test_one_with_block_twice_and_within_itself(self):
        trial = self.session.trial()
        for _ in range(2):
            with trial as inner:
                inner.edit(POINT)
                with trial:
                    inner.edit(DROP)
                    self.check_undone(inner, (DROP, 0))
                    self.check_not_undone(inner)
                self.check_undone(inner, (POINT, 1))
                self.check_not_undone(inner)
        self.check_as_before()

    def test_it_begins_with_the_block(self):
        trial = self.session.trial()
        self.session.edit(POINT)
        before = told_of(self.session)
        with trial as inner:
            self.check_not_undone(inner)
            inner.edit(DROP)
        self.assertEqual(told_of(self.session), before)
        self.check_undone(self.session, (POINT, 1))
        self.session.trial()
        self.check_as_before()


class TriedTest(Sessions):
    def test_costs(self):
        session = Session(CELLS, 4)
        for edits in [[FILL, POINT, DROP], (FILL, POINT, DROP)]:
            self.assertEqual(repr(session.tried(edits)), "[5, 1, 0]")
            self.check_session(session, [CELLS], [])
        self.assertEqual([session.tried([]), session.tried(())], [[], []])

    def test_twenty_edits_and_more(self):
        session = Session(CELLS, 4)
        edits = [("point", 0, (0, (index + 1) % 2)) for index in range(20)]
        self.assertEqual(session.tried(edits), [1] * 20)
        self.assertEqual(session.tried(tuple(edits)), [1] * 20)
        for many in [21, 22, 1000]:
            self.assertIsNotNone(caught(BadEdit, session.tried, (edits * many)[:many]))
        self.check_session(session, [CELLS], [])

    def test_an_edit_that_is_refused(self):
        session = Session(CELLS, 4)
        session.edit(POINT)
        before = told_of(session)
        for edit in [*WRONG, *odd_values()]:
            for edits in [[edit], [FILL, ("fill", 0, (7, 8)), edit], (POINT, edit, POINT), [edit, edit]]:
                self.assertIsNotNone(caught(BadEdit, session.tried, edits), edits)
                self.assertEqual(told_of(session), before)
        self.check_undone(session, (POINT, 1))
        self.check_session(session, [CELLS], [])
        self.check_not_undone(session)

    def test_edit_by_edit(self):
        session = Session(CELLS, 4)
        self.assertEqual(session.tried([DROP, ("fill", 0, ())]), [0, 1])
        self.assertIsNotNone(caught(BadEdit, session.tried, [("fill", 0, ()), DROP]))
        self.assertIsNotNone(caught(BadEdit, session.tried, [DROP, POINT]))

    def test_no_row_of_edits(self):
        session = Session(CELLS, 4)
        for value in [None, True, 0, 1, "", "drop", b"", {}, {DROP: 1}, {DROP}, iter([DROP]), range(0), DROP, POINT,
                      object(), len, ANY, [[DROP]], [[]], ((DROP,),)]:
            self.assertIsNotNone(caught(BadEdit, session.tried, value), value)
        self.check_session(session, [CELLS], [])

    def test_in_a_trial(self):
        session = Session(CELLS, 4)
        with session.trial():
            session.edit(FILL)
            self.assertEqual(session.tried([POINT, DROP]), [1, 0])
            self.assertIsNotNone(caught(BadEdit, session.tried, [POINT, ()]))
            self.check_undone(session, (FILL, 5))
            self.check_not_undone(session)

    def test_the_list_stays_and_is_new(self):
        session = Session(CELLS, 4)
        edits = [FILL, POINT]
        costs = session.tried(edits)
        self.assertEqual(edits, [FILL, POINT])
        costs.clear()
        self.assertEqual(session.tried(edits), [5, 1])


class RandomSessionsTest(Sessions):
    def play(self, rng, session, model, depth):
        """Do the same to a session and to the model."""
        for _ in range(rng.randint(2, 7)):
            self.check_session(session, model.files, model.pairs)
            action = rng.choice(["edit", "edit", "edit", "undo", "trial", "branch", "tried"])
            if action == "edit":
                self.check_edit(session, model, plain.random_edit(rng, session.contents()))
            elif action == "undo":
                pair = model.undo()
                if pair is None:
                    self.check_not_undone(session)
                else:
                    self.check_undone(session, pair)
            elif action == "branch" and depth < 2:
                self.play(rng, session.branch(), model.branch(), depth + 1)
            elif action == "tried":
                self.check_tried(rng, session, model)
            elif depth < 2:
                self.check_trial(rng, session, model, depth)
        self.check_session(session, model.files, model.pairs)

    def check_edit(self, session, model, edit):
        cost = model.edit(edit)
        if cost is None:
            self.assertIsNotNone(caught(BadEdit, session.edit, edit), (session.current, edit))
        else:
            self.assertEqual(repr(session.edit(edit)), repr(cost), (session.current, edit))

    def check_tried(self, rng, session, model):
        model.begin()
        edits = []
        costs = []
        while len(edits) < 3 and None not in costs:
            edits.append(plain.random_edit(rng, pruned(told(model.files[-1]))))
            costs.append(model.edit(edits[-1]))
        model.end()
        if None in costs:
            self.assertIsNotNone(caught(BadEdit, session.tried, edits), edits)
        else:
            self.assertEqual(session.tried(edits), costs)

    def check_trial(self, rng, session, model, depth):
        model.begin()
        try:
            with session.trial() as inner:
                self.play(rng, inner, model, depth + 1)
                if rng.random() < 0.5:
                    raise Stop
        except Stop:
            pass
        model.end()

    def test_random_sessions(self):
        rng = random.Random(41)
        made = 0
        while made < 300:
            cells = likely_file(rng, random_shape(rng))
            shape = pruned(told(cells))
            if not is_shape(shape):
                self.assertIsNotNone(caught(BadShape, Session, cells, 4), cells)
                continue
            made += 1
            # The model tries all sizes, so that groups leave it few spare cells.
            few = len([kind for kind, _ in boxes_in(shape) if kind == "group"]) > 1 or len(boxes_in(shape)) > 4
            spare = rng.choice([0, 1, 2, 3, 4] if few else [0, 2, 4, 5, 6, 7, 8])
            self.play(rng, Session(cells, spare), plain.PlainSession(cells, spare), 0)


class RefusedTest(Sessions):
    def test_files(self):
        for value in odd_values():
            self.assertIsNone(caught(BadFile, Session, value, 4).place)
        for cells, place in [([2], 0), ([2, 4, 7], 1), ([4, 3, 0], 2), ([2, 2] * 15 + [2], None)]:
            self.assertEqual(caught(BadFile, Session, cells, 4).place, place)

    def test_shapes(self):
        for cells in [[], (), [3, 2], [3, 5, 0, 0, 0], [2, 2] * 7, [2, 9] + [0] * 7, [4, 9] + [11] * 7 + [2, 3, 5],
                      [1, 16] + [2, 2] * 7, [1, 4, 3, 2] * 7]:
            self.assertIsNotNone(caught(BadShape, Session, cells, 4), cells)
        for cells in [[2, 2] * 6, [2, 8] + [0] * 6, [4, 8] + [10] * 6 + [2, 3, 5], [3, 2] * 9 + [2, 2] * 6]:
            self.assertEqual(Session(cells, 4).contents(), shape_of(cells))

    def test_spare_cells(self):
        for spare in [-1, 9, 10, 30, 10 ** 30, -10 ** 30, None, True, False, "4", "", (), (4,), [4], {}, {4: 4}, b"",
                      object(), len, ANY]:
            self.assertIsNotNone(caught(BadRoom, Session, CELLS, spare), spare)

    def test_the_first_of_two_wrong_arguments(self):
        for wrongs in [[([2], BadFile), (9, BadRoom)], [([], BadShape), (-1, BadRoom)], [(2, BadFile), ("4", BadRoom)],
                       [([2, 2] * 7, BadShape), (None, BadRoom)]]:
            self.assertEqual(wrong_order(Session, [CELLS, 4], wrongs), [])
        # This row of cells is no file, and the boxes in it would be no shape.
        self.assertEqual(caught(BadFile, Session, [2, 2] * 7 + [5, 2], 9).place, 14)

    def test_arguments_stay_as_they_are(self):
        for values in [(list(CELLS), 4), ([2, 9], 4), ([], 4), (list(CELLS), [9])]:
            before = copy.deepcopy(values)
            attempted(Session, *values)
            self.assertEqual(repr(values), repr(before))
        session = Session(CELLS, 4)
        for edits in [[FILL, POINT], [FILL, ["drop", 1]], [["fill", 0, [5]]], [FILL] * 21]:
            before = copy.deepcopy(edits)
            attempted(session.tried, edits)
            attempted(session.edit, edits[0])
            self.assertEqual(repr(edits), repr(before))
