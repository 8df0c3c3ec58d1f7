"""The maker: plain pieces, made step by step from the first machine's rows."""

from likewise.errors import TooMany
from likewise.machine import RECKONING
from likewise.pages import text_of
from likewise.pieces import Piece
from likewise.rows import cells_of
from likewise.terms import Table, number_term
from likewise.walk import behind_cells, branch_places, first_state, gone_to, next_step, state_behind
from likewise.words import is_word

MOST_STEPS = 14

# A piece so made has each box in the spot of its number behind every step, sure to be a word.
BOXES = ((0, ((0, 1),)), (0, ((1, 1),)), (0, ((2, 1),)), (0, ((3, 1),)))

FIRST_TRUTHS = ((True, "truth", 4, 0), (True, "truth", 5, 0))

# The truths look into one pair of spots, while what the next ones look into is reckoned in the other.
FIRST_PAIR = (4, 5)
OTHER_PAIR = (6, 7)

SCRATCH = 8

# It changes nothing, but a way stands behind it.
FILLER = ("copy", 8, 8)


def reckoning_rows(row, pair):
    """The made rows of a row that reckons, with a pair of spots for what its truths look into."""
    name, x, y = row
    one, two = pair
    if name == "cmp":
        return [("copy", one, x), ("copy", two, y)]
    if name == "sub":
        return [("copy", one, x), ("copy", two, y), ("sub", SCRATCH, x, y), ("cut", x, SCRATCH)]
    return [("copy", one, x), (name, SCRATCH, x, y), ("cut", two, SCRATCH), ("copy", x, two)]


def reckoning_truths(name, pair):
    """The truths' recipes behind the made rows of a row that reckons."""
    one, two = pair
    if name in ("sub", "cmp"):
        return ((True, "same", one, two), (True, "less", one, two))
    zero = (False, "truth", two, 0)
    if name == "add":
        return (zero, (True, "less", two, one))
    return (zero, (False, "known", 0, 0))


def other_rows(row, behind):
    """The made rows of a row that does not reckon and is not open, with the place behind it."""
    if row[0] == "load":
        return [row, FILLER]
    if row[0] == "store":
        return [("store", row[2], row[3], row[1])]
    if row[0] == "move":
        return [("copy", row[1], row[2])]
    if row[0] == "call":
        return [("set", row[1], behind)]
    if row[0] in ("set", "out"):
        return [row]
    return [FILLER]


class Making:
    """A piece in the making, with the state by terms behind the steps made."""

    def __init__(self, pages, cells, start):
        self.table = Table()
        self.rights = list(pages)
        self.memory = list(cells)
        self.start = start
        self.now = first_state(self.table, start)
        self.made = 0
        self.pair = OTHER_PAIR
        self.recipes = FIRST_TRUTHS
        self.text_cells = []
        self.rows = []
        self.ways = [self.way_to(0, self.now[2])]

    def place(self):
        """Where the first machine is by now."""
        return self.now[2][0]

    def steps(self):
        """How many steps are made."""
        return self.made

    def way_to(self, done, place):
        """The way behind so many steps to a place, with boxes and truths as they are kept by now."""
        return (done, BOXES, self.recipes, place)

    def upcoming(self):
        """A pair: "" or "open" and the row of the next step, or why none is made and None."""
        if self.made == MOST_STEPS:
            return ("full", None)
        return next_step(self.rights, self.memory, self.now)

    def step(self):
        """Make the next step: "", or the word for why it is not made."""
        word, row = self.upcoming()
        if word != "":
            return word
        if row[0] in RECKONING:
            rows = reckoning_rows(row, self.pair)
            self.recipes = reckoning_truths(row[0], self.pair)
            self.pair = FIRST_PAIR if self.pair == OTHER_PAIR else OTHER_PAIR
        else:
            rows = other_rows(row, behind_cells(row, self.now)[0])
        self.make(row, rows, state_behind(self.table, row, self.now))
        return ""

    def guessed(self, to):
        """Make an open step that goes on to a place: "", or the word for why it is not made."""
        word, row = self.upcoming()
        if word == "full":
            return word
        if word != "open" or not self.can_lead(row, to):
            return "wrong"
        self.make(row, self.test_rows(row, to), gone_to(self.now, number_term(to)))
        return ""

    def can_lead(self, row, to):
        """Whether an open row can lead to a place."""
        if row[0] == "back":
            return is_word(to)
        return (to, ()) in branch_places(row, self.now)

    def test_rows(self, row, to):
        """The made rows of an open row that goes on to a place."""
        if row[0] == "back":
            way = self.way_to(self.made + 1, BOXES[row[1]])
            return [("set", SCRATCH, to), ("test", "same", row[1], SCRATCH, True, way)]
        gone, not_gone = branch_places(row, self.now)
        is_gone = (to, ()) == gone
        way = self.way_to(self.made + 1, not_gone if is_gone else gone)
        yes, kind, s, t = self.recipes[row[1] // 2]
        # An odd kind is gone where its truth is not so.
        truth = is_gone == (row[1] % 2 == 0)
        test = ("test", kind, s, t, yes == truth, way)
        # The way right behind a store leads to just behind it. That may be meant of a test's own way too.
        if len(self.rows) > 0 and self.rows[-1][0] == "store":
            return [FILLER, test]
        return [test]

    def make(self, row, rows, state):
        """Take up a step: its row, its made rows, and the state behind it."""
        here = self.place()
        self.text_cells.extend(list(range(here, here + len(cells_of(row)))))
        self.now = state
        self.made += 1
        # What the state ahead is told by stands till the last of the made rows is done.
        self.ways.extend([self.ways[-1]] * (len(rows) - 1))
        self.ways.append(self.way_to(self.made, state[2]))
        self.rows.extend(rows)

    def piece(self):
        """The piece of the steps made so far, or None without one."""
        if self.made == 0:
            return None
        return Piece(self.start, text_of(self.memory, self.text_cells), self.rows, self.ways)


def check_most(most):
    """Refuse a number of steps that no piece in the making can have."""
    if not 1 <= most <= MOST_STEPS:
        raise TooMany("a piece is made of 1 to 14 steps")


def stretch_made(pages, cells, start, most):
    """The steps made from a place on without a test, so many at most."""
    check_most(most)
    making = Making(pages, cells, start)
    word = ""
    while word == "" and making.steps() < most:
        word = making.step()
    return making


def stretch(pages, cells, start, most):
    """How many steps the stretch from a place has."""
    return stretch_made(pages, cells, start, most).steps()


def plain_piece(pages, cells, start, most):
    """The plain piece of the stretch from a place, or None."""
    return stretch_made(pages, cells, start, most).piece()
