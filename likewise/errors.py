"""The refusals: each a class straight under LikeError."""


class LikeError(ValueError):
    """What all refusals have in common."""


class BadRow(LikeError):
    """A tuple is no row; made of a text."""


class BadPages(LikeError):
    """There are too few or too many pages; made of a text."""


class BadState(LikeError):
    """A memory, boxes or a place are none; made of a text."""


class BadDeed(LikeError):
    """What was asked of a desk is nothing that it answers; made of a text."""


class Unknown(LikeError):
    """There is nothing of that name or number; made of a text."""


class NothingLeft(LikeError):
    """There is nothing to take back; made of a text."""


class TooMany(LikeError):
    """A number of steps is out of its bounds; made of a text."""


class BadPiece(LikeError):
    """A piece is wrong at the number in the field row."""

    def __init__(self, row):
        LikeError.__init__(self, row)
        self.row = row


class BadBook(LikeError):
    """A book is wrong at the number in the field row."""

    def __init__(self, row):
        LikeError.__init__(self, row)
        self.row = row


class BadText(LikeError):
    """A text is wrong at the number in the field row."""

    def __init__(self, row):
        LikeError.__init__(self, row)
        self.row = row
