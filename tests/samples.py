"""What several tests draw on: memories, ways, random beginnings, and rides compared with the machine alone."""

from likewise.machine import Machine
from likewise.maker import Making
from likewise.pages import text_stands
from likewise.pieces import Piece
from likewise.riding import ridden
from likewise.rows import NAMES, PARTS, cells_of, row_in

ALL = (True, True, True)
NO_RUN = (True, True, False)
NO_READ = (False, True, True)
NO_WRITE = (True, False, True)

# Boxes and truths as they stand in the spots at a piece's beginning.
BOXES = tuple((0, ((k, 1),)) for k in range(4))
TRUTHS = ((True, "truth", 4, 0), (True, "truth", 5, 0))
YES = (True, "known", 0, 0)
NO = (False, "known", 0, 0)
IDLE = ("copy", 9, 9)


def number(n):
    """The recipe of a number."""
    return (n, ())


def spot(s, many=1, more=0):
    """The recipe of so many times a spot and a number more."""
    return (more, ((s, many),))


def instead(things, k, thing):
    """A tuple with another thing in the place k."""
    return things[:k] + (thing,) + things[k + 1:]


def boxes(**others):
    """The boxes' recipes, but b0 to b3 as told."""
    return tuple(others.get(f"b{k}", BOXES[k]) for k in range(4))


def way(done, place, truths=TRUTHS, **others):
    """A way to a place, or by a recipe, with boxes but for b0 to b3 as they were at the beginning."""
    return (done, boxes(**others), truths, place if isinstance(place, tuple) else number(place))


def memory(rows, many=2, at=0, rest=0):
    """The cells of so many pages with rows written one behind the other, the others all alike."""
    words = [word for row in rows for word in cells_of(row)]
    cells = [rest] * (16 * many)
    cells[at:at + len(words)] = words
    return cells[:16 * many]


def text(rows, at=0):
    """The text of rows written one behind the other."""
    words = [word for row in rows for word in cells_of(row)]
    return tuple((at + k, word) for k, word in enumerate(words))


def random_row(r, bound):
    """A row that leads to cells below a bound, if anywhere."""
    name = r.choice(NAMES[1:])
    words = (0, 1, 2, 4095, r.randrange(bound), r.randrange(4096))
    among = {"x": range(4), "y": range(4), "k": range(4), "m": range(16), "n": words if name == "set" else range(bound)}
    return (name,) + tuple(r.choice(among[part]) for part in PARTS[name])


def random_cells(r, many):
    """A memory full of rows."""
    cells = []
    while len(cells) < 16 * many:
        cells.extend(cells_of(random_row(r, 16 * many)))
    return cells[:16 * many]


def random_pages(r, many):
    """Pages of which some lack a right."""
    return [tuple(r.random() < 0.85 for k in range(3)) for page in range(many)]


def random_making(r, most=14):
    """Pages, cells and a piece in the making, with open steps guessed at random."""
    many = r.randrange(1, 4)
    pages, cells = random_pages(r, many), random_cells(r, many)
    making = Making(pages, cells, r.randrange(16 * many))
    word = ""
    while word == "" and making.steps() < most:
        word = making.step()
        if word == "open":
            word = making.guessed(open_to(r, cells, making.place()))
    return pages, cells, making


def open_to(r, cells, place):
    """A place to which the open step at a place can lead."""
    row = row_in(cells[place], cells[(place + 1) % len(cells)])
    return r.choice((row[2], place + 2)) if row[0] == "branch" else r.randrange(len(cells))


def random_machine(r, pages, cells, piece):
    """A machine at a piece's start, whose text stands there, all else at random."""
    words = [r.choice((r.randrange(len(cells)), r.randrange(4096), 0, 4095)) for k in range(4)]
    one = Machine(pages, cells, words, piece.start)
    one.put(words, (r.random() < 0.5, r.random() < 0.5), piece.start, r.randrange(3))
    for cell in range(len(cells)):
        if cell not in dict(piece.text) and r.random() < 0.3:
            one.poke(cell, r.choice((0, 1, r.randrange(4096))))
    return one


def random_recipe(r):
    """A recipe of a few spots."""
    return (r.choice((0, r.randrange(4096))), tuple((s, r.choice((1, 4095))) for s in sorted(r.sample(range(12), r.choice((0, 0, 1, 2))))))


def random_way(r):
    """A way that leads anywhere."""
    truths = tuple(
        r.choice((YES, NO, (True, "truth", r.randrange(12), 0), (False, r.choice(("same", "less")), r.randrange(12), r.randrange(12))))
        for k in range(2)
    )
    return (r.randrange(100), tuple(random_recipe(r) for k in range(4)), truths, random_recipe(r))


def random_made_row(r):
    """A made row of any kind."""
    q, s, t, n = r.randrange(12), r.randrange(12), r.randrange(12), r.choice((0, 1, r.randrange(4096)))
    kind = r.choice(("same", "less", "truth"))
    return r.choice((
        ("set", q, n), ("copy", q, s), ("cut", q, s), ("addn", q, s, n), ("load", q, s, n), ("load", q, s, n), ("store", s, n, t),
        ("out", s), (r.choice(("add", "sub", "mul", "and", "xor")), q, s, t),
        ("test", kind, s, 0 if kind == "truth" else t, r.random() < 0.5, random_way(r)),
    ))


def random_piece(r):
    """A piece of any rows and ways, hardly ever right."""
    rows = [random_made_row(r) for count in range(r.randrange(1, 40))]
    blind = (0, (number(0),) * 4, (NO, NO), number(0))
    ways = [random_way(r) if r.random() < 0.2 else blind for count in range(len(rows) + 1)]
    return Piece(r.randrange(4096), ((0, 0),), tuple(rows), tuple(ways))


def whole(one):
    """All that a machine has."""
    return (one.state(), one.stored(), one.pages())


def compare_ride(test, one, piece, last=None):
    """A ride does what so many steps of the machine alone do: the triple that it told."""
    alone = one.twin()
    rider = one.twin()
    row, done, why = ridden(rider, piece, last)
    test.assertEqual(alone.steps(done), (done, ""))
    test.assertEqual(whole(rider), whole(alone))
    return row, done, why


def compare_rides(test, r, pages, cells, piece, many=3):
    """Rides from several states, broken into ahead of each row or not at all: the set of why they were left."""
    test.assertTrue(text_stands(cells, piece.text))
    whys = set()
    for count in range(many):
        one = random_machine(r, pages, cells, piece)
        for last in [None] + list(range(len(piece.rows) + 1)):
            whys.add(compare_ride(test, one, piece, last)[2])
    return whys


def copied(piece, start=None, cells=None, rows=None, ways=None):
    """A piece with some of its fields as told."""
    return Piece(
        piece.start if start is None else start,
        piece.text if cells is None else cells,
        piece.rows if rows is None else rows,
        piece.ways if ways is None else ways,
    )
