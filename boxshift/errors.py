"""The errors of the package."""


class BoxError(ValueError):
    """Any error that this package documents."""


class BadFile(BoxError):
    """Cells are no file; place is the first wrong place, None if they are no row of cells at all."""

    def __init__(self, place):
        super().__init__(f"no file, the first wrong place is {place}")
        self.place = place


class BadShape(BoxError):
    """A value is no shape."""


class BadRoom(BoxError):
    """A value is no room for a shape, or no number of spare cells."""


class BadGaps(BoxError):
    """A value does not tell the sizes of the gaps of a shape."""


class BadShapes(BoxError):
    """Shapes are no row of shapes; index is that of the first wrong one, None if they are no such row at all."""

    def __init__(self, index):
        super().__init__(f"no row of shapes, the first wrong index is {index}")
        self.index = index


class BadBox(BoxError):
    """A value is no number of a data box of a file."""


class BadGrowth(BoxError):
    """A data box cannot get this content in its place."""


class BadEdit(BoxError):
    """A value is no edit of a shape."""


class NothingDone(BoxError):
    """There is no edit to take back."""


class BadText(BoxError):
    """A text is none of a file; row is the index of the first wrong line."""

    def __init__(self, row):
        super().__init__(f"no text of a file, the first wrong row is {row}")
        self.row = row


class TooLarge(BoxError):
    """There are more steps than a series may have."""
