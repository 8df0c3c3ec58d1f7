"""The first machine's rows, and how they are written in cells."""

from likewise.errors import BadRow
from likewise.words import is_below, is_word

# A row's number is where its name stands here.
NAMES = (
    "stop", "set", "move", "add", "sub", "mul", "and", "xor",
    "cmp", "load", "store", "jump", "branch", "call", "back", "out",
)

# The numbers behind each name, a letter each; k is a branch's kind.
PARTS = {
    "stop": "",
    "set": "xn",
    "move": "xy",
    "add": "xy",
    "sub": "xy",
    "mul": "xy",
    "and": "xy",
    "xor": "xy",
    "cmp": "xy",
    "load": "xym",
    "store": "xym",
    "jump": "n",
    "branch": "kn",
    "call": "xn",
    "back": "x",
    "out": "x",
}

BOUNDS = {"x": 4, "y": 4, "k": 4, "m": 16, "n": 4096}

# What each number counts in the first cell: n has the second one to itself.
WEIGHTS = {"x": 64, "y": 16, "k": 1, "m": 1, "n": 0}


def is_row(row):
    """Whether a tuple is a row."""
    if len(row) == 0 or row[0] not in NAMES:
        return False
    parts = PARTS[row[0]]
    numbers = row[1:]
    if len(numbers) != len(parts):
        return False
    return all([is_below(number, BOUNDS[part]) for part, number in zip(parts, numbers)])


def first_word(row):
    """The word in a row's first cell."""
    name = row[0]
    counted = [WEIGHTS[part] * number for part, number in zip(PARTS[name], row[1:])]
    return NAMES.index(name) * 256 + sum(counted)


def number_in(part, first, second):
    """The number that two words tell for one letter of PARTS."""
    if part == "n":
        return second
    return first // WEIGHTS[part] % BOUNDS[part]


def row_in(first, second):
    """The row that these words begin, or None."""
    if not is_word(first):
        return None
    name = NAMES[first // 256]
    row = (name,) + tuple([number_in(part, first, second) for part in PARTS[name]])
    # A word with something where the row has nothing is not what the row is written as.
    if not is_row(row) or first_word(row) != first:
        return None
    return row


def cells_from(first):
    """How many cells a row has that begins with this word: 0, 1 or 2."""
    row = row_in(first, 0)
    if row is None:
        return 0
    return len(cells_of(row))


def cells_of(row):
    """The list of the words that a row is written in."""
    if not is_row(row):
        raise BadRow("this tuple is no row")
    if "n" in PARTS[row[0]]:
        return [first_word(row), row[-1]]
    return [first_word(row)]
