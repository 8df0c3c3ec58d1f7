"""The first machine: it does the rows that lie in its own memory."""

from likewise.pages import check_state, may_read, may_run, may_write
from likewise.rows import cells_from, cells_of, row_in

# The rows that reckon with x and y and set the truths.
RECKONING = ("add", "sub", "mul", "and", "xor", "cmp")


def row_at(pages, cells, place):
    """A pair: "" and the row at a place, or why there is none and None."""
    if not may_run(pages, place):
        return ("run", None)
    many = cells_from(cells[place])
    if many == 0:
        return ("row", None)
    if many == 1:
        return ("", row_in(cells[place], 0))
    second = (place + 1) % 4096
    if not may_run(pages, second):
        return ("run", None)
    return ("", row_in(cells[place], cells[second]))


def result_of(name, x, y):
    """What comes of x and y by a row that reckons; each machine reckons it by its own number."""
    if name == "add":
        return x + y
    if name == "mul":
        return x * y
    if name == "and":
        return x & y
    if name == "xor":
        return x ^ y
    return x - y


def less_of(name, x, y):
    """The truth less behind a row that reckons."""
    if name == "add":
        return x + y > 4095
    return name in ("sub", "cmp") and x < y


def branch_goes(kind, truths):
    """Whether a branch of this kind is gone by these truths."""
    zero, less = truths
    return (zero, not zero, less, not less)[kind]


class Machine:
    """A memory, four boxes, two truths and a place; words told, cells stored into and steps done are kept."""

    def __init__(self, pages, cells, boxes, place):
        check_state(pages, cells, boxes, place)
        self.rights = list(pages)
        self.memory = list(cells)
        self.box_words = list(boxes)
        self.here = place
        self.truth_pair = (False, False)
        self.told_words = []
        self.stored_cells = []
        self.done_count = 0

    def pages(self):
        """The pages, a list of triples."""
        return list(self.rights)

    def cells(self):
        """The memory, a list of words."""
        return list(self.memory)

    def boxes(self):
        """The list of the four boxes' words."""
        return list(self.box_words)

    def truths(self):
        """The pair of zero and less."""
        return self.truth_pair

    def place(self):
        """Where the row of the next step begins."""
        return self.here

    def told(self):
        """The list of all words told."""
        return list(self.told_words)

    def stored(self):
        """The list of the cells stored into or poked, each time."""
        return list(self.stored_cells)

    def done(self):
        """How many steps were done."""
        return self.done_count

    def state(self):
        """The tuple of boxes, truths, place, cells, told, done."""
        return (self.boxes(), self.truths(), self.place(), self.cells(), self.told(), self.done())

    def twin(self):
        """A machine like this one, that goes on by itself."""
        # What is handed to a new machine is checked, but what was put or poked here stands as it is.
        other = Machine(self.rights, [0] * len(self.memory), [0] * 4, 0)
        other.memory = list(self.memory)
        other.told_words = list(self.told_words)
        other.stored_cells = list(self.stored_cells)
        other.put(self.box_words, self.truth_pair, self.here, self.done_count)
        return other

    def put(self, boxes, truths, place, more):
        """Let these boxes, truths and place stand, and so many steps more be done."""
        self.box_words = list(boxes)
        self.truth_pair = tuple(truths)
        self.here = place
        self.done_count += more

    def peek(self, cell):
        """The word in a cell."""
        return self.memory[cell]

    def poke(self, cell, word):
        """Put a word into a cell."""
        self.memory[cell] = word
        self.stored_cells.append(cell)

    def tell(self, word):
        """Add a word to those told."""
        self.told_words.append(word)

    def step(self):
        """Do the row at the place: "", or the word for why it can't be done."""
        word, row = row_at(self.rights, self.memory, self.here)
        if row is None:
            return word
        word = self.hindrance(row)
        if word == "":
            self.do(row)
        return word

    def steps(self, most):
        """A pair: how many steps were done, at most so many, and "" or the word that ended them."""
        count = 0
        while count < most:
            word = self.step()
            if word != "":
                return (count, word)
            count += 1
        return (count, "")

    def address(self, row):
        """The cell that a load or a store is about."""
        return (self.box_words[row[2]] + row[3]) % 4096

    def hindrance(self, row):
        """The word for why a row can't be done, or ""."""
        if row[0] == "stop":
            return "stop"
        if row[0] == "load" and not may_read(self.rights, self.address(row)):
            return "read"
        if row[0] == "store" and not may_write(self.rights, self.address(row)):
            return "write"
        return ""

    def do(self, row):
        """Do a row that nothing hinders."""
        behind = (self.here + len(cells_of(row))) % 4096
        self.here = self.next_place(row, behind)
        if row[0] in RECKONING:
            self.reckon(row)
        elif row[0] == "store":
            self.poke(self.address(row), self.box_words[row[1]])
        elif row[0] == "out":
            self.tell(self.box_words[row[1]])
        else:
            self.fill(row, behind)
        self.done_count += 1

    def next_place(self, row, behind):
        """Where a row leads, by the boxes and truths ahead of it."""
        if row[0] in ("jump", "call"):
            return row[-1]
        if row[0] == "branch" and branch_goes(row[1], self.truth_pair):
            return row[2]
        if row[0] == "back":
            return self.box_words[row[1]]
        return behind

    def reckon(self, row):
        """Set the truths, and x unless it is a cmp."""
        name, x, y = row
        one = self.box_words[x]
        two = self.box_words[y]
        result = result_of(name, one, two) % 4096
        self.truth_pair = (result == 0, less_of(name, one, two))
        if name != "cmp":
            self.box_words[x] = result

    def fill(self, row, behind):
        """Fill the box of a row that sets one without reckoning."""
        if row[0] == "set":
            self.box_words[row[1]] = row[2]
        elif row[0] == "move":
            self.box_words[row[1]] = self.box_words[row[2]]
        elif row[0] == "load":
            self.box_words[row[1]] = self.peek(self.address(row))
        elif row[0] == "call":
            self.box_words[row[1]] = behind
