"""Riding: a piece's rows done on a machine's cells and told words, till a way leads back to the machine's own state."""

from likewise.machine import result_of
from likewise.pages import may_read, may_write
from likewise.pieces import SPOTS, kind_tells, recipe_worth, truth_worth

# The spots' numbers are reckoned by it.
NUMBERS = 16777216


def first_spots(machine):
    """The numbers that a piece begins with."""
    known = machine.boxes() + [1 if truth else 0 for truth in machine.truths()]
    return known + [0] * (SPOTS - len(known))


def cell_of(row, spots):
    """The cell that a load or a store is about, not cut: it may be far beyond those that are there."""
    s, n = row[2:] if row[0] == "load" else row[1:3]
    return spots[s] + n


def number_set(row, spots):
    """What a row sets its spot to that reckons with nothing but spots."""
    name = row[0]
    if name == "set":
        return row[2]
    one = spots[row[2]]
    if name == "copy":
        return one
    if name == "cut":
        return one % 4096
    if name == "addn":
        return (one + row[3]) % NUMBERS
    return result_of(name, one, spots[row[3]]) % NUMBERS


def why_left(pages, row, spots):
    """Why a piece is left at a row without its being done, or ""."""
    if row[0] == "load" and not may_read(pages, cell_of(row, spots)):
        return "read"
    if row[0] == "store" and not may_write(pages, cell_of(row, spots)):
        return "write"
    if row[0] == "test" and kind_tells(row[1], spots[row[2]], spots[row[3]]) != row[4]:
        return "test"
    return ""


def do_row(machine, row, spots):
    """Do a row that nothing hinders: the spot and the word that come only behind the next row, or None."""
    if row[0] == "load":
        return (row[1], machine.peek(cell_of(row, spots)))
    if row[0] == "store":
        machine.poke(cell_of(row, spots), spots[row[3]] % 4096)
    elif row[0] == "out":
        machine.tell(spots[row[1]] % 4096)
    elif row[0] != "test":
        spots[row[1]] = number_set(row, spots)
    return None


def is_into(text, row, spots):
    """Whether a row is a store into a cell of a text."""
    return row[0] == "store" and cell_of(row, spots) in [cell for cell, word in text]


def lead_back(machine, way, spots):
    """Let the machine stand where a way leads: how many steps that does."""
    done, boxes, truths, place = way
    words = [recipe_worth(recipe, spots) for recipe in boxes]
    pair = tuple([truth_worth(recipe, spots) for recipe in truths])
    machine.put(words, pair, recipe_worth(place, spots), done)
    return done


def ridden(machine, piece, last=None):
    """Ride a piece: the row at which it is left, how many steps its way does, and why it is left."""
    pages = machine.pages()
    spots = first_spots(machine)
    late = None
    for k, row in enumerate(piece.rows):
        why = "break" if k == last else why_left(pages, row, spots)
        if why != "":
            way = row[5] if why == "test" else piece.ways[k]
            return (k, lead_back(machine, way, spots), why)
        coming = late
        # Asked ahead of the late word, which may come into the spot that the store looked into.
        changes_text = is_into(piece.text, row, spots)
        late = do_row(machine, row, spots)
        if coming is not None:
            spots[coming[0]] = coming[1]
        if changes_text:
            return (k, lead_back(machine, piece.ways[k + 1], spots), "text")
    return (len(piece.rows), lead_back(machine, piece.ways[-1], spots), "end")
