"""Random files with free boxes, and with changed cells, against the writer and the reader of the tests."""

import random
import unittest

from boxshift.boxes import first_wrong, free_cells, read, shape_of
from boxshift.errors import BadFile
from tests.support import FILE_KINDS, caught, free_room, pruned, random_boxes, told, wrong_place, written


def changed(rng, cells):
    """Cells with a few of them changed, taken out or put in."""
    cells = list(cells)
    for _ in range(rng.randint(1, 2)):
        value = rng.choice([0, 1, 1, 2, 3, 4, 5, 6, len(cells), rng.randint(0, 99)])
        at = rng.randint(0, len(cells))
        action = rng.choice(["change", "change", "take", "put"])
        if action == "put" and len(cells) < 30:
            cells.insert(at, value)
        elif action == "take":
            del cells[at:at + 1]
        elif at < len(cells):
            cells[at] = value
    return cells


class RandomFilesTest(unittest.TestCase):
    def test_what_was_written_is_read(self):
        rng = random.Random(1)
        for _ in range(3000):
            boxes = random_boxes(rng, FILE_KINDS)
            cells = written(boxes, rng.randint(0, 99))
            self.assertIsNone(first_wrong(cells), cells)
            self.assertEqual(read(cells), boxes)
            self.assertEqual(shape_of(tuple(cells)), pruned(boxes))
            self.assertEqual(free_cells(cells), free_room(boxes))

    def test_changed_cells(self):
        rng = random.Random(2)
        wrong = 0
        for _ in range(6000):
            cells = changed(rng, written(random_boxes(rng, FILE_KINDS)))
            wrong += self.check(cells)
        self.assertTrue(1500 < wrong < 5500, wrong)

    def test_rows_of_small_cells(self):
        rng = random.Random(3)
        wrong = 0
        for _ in range(20000):
            cells = rng.choices([1, 2, 2, 2, 3, 3, 3, 4, 4, 5, 6], k=rng.randint(0, 12))
            wrong += self.check(cells)
        self.assertTrue(wrong < 19500, wrong)

    def check(self, cells):
        """Whether the cells are no file, which both readers must say alike."""
        place = wrong_place(cells)
        self.assertEqual(first_wrong(cells), place, cells)
        if place is None:
            boxes = told(cells)
            self.assertEqual((read(cells), shape_of(cells)), (boxes, pruned(boxes)))
            self.assertEqual(free_cells(cells), free_room(boxes))
            return False
        for action in [read, shape_of, free_cells]:
            error = caught(BadFile, action, cells)
            self.assertIsNotNone(error, cells)
            self.assertEqual(error.place, place)
        return True
