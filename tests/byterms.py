"""A piece's rows and ways by terms, told apart from the program's own spots; and right pieces that could be shorter."""

from likewise.conds import less_cond, opposite, same_cond
from likewise.judge import judged
from likewise.pieces import Piece
from likewise.terms import minus, number_term, plus, so_many
from samples import copied, instead, random_making

NONE = number_term(0)


class Walk:
    """What each spot holds, and whether it is sure, as rows are gone through; loads and stores are kept."""

    def __init__(self, table):
        self.table = table
        self.held = [table.box(k) for k in range(4)] + [table.truth(k) for k in range(2)] + [NONE] * 6
        self.sure = [True] * 12
        self.loads, self.stores, self.late = [], [], None

    def word(self, address):
        """What stands at an address by now."""
        if self.stores and self.stores[-1][0] == address:
            return self.stores[-1][1]
        return self.table.cell(address, len(self.stores))

    def address(self, row):
        """What a load or a store is about."""
        s, n = row[2:4] if row[0] == "load" else row[1:3]
        return plus(self.held[s], number_term(n))

    def sets(self, row):
        """A triple of the spot that a row sets by reckoning, its term, and whether it is sure; or None."""
        name, held, sure = row[0], self.held, self.sure
        if name in ("load", "store", "out", "test"):
            return None
        if name == "set":
            return (row[1], number_term(row[2]), True)
        s = row[2]
        if name in ("copy", "cut"):
            return (row[1], held[s], sure[s] or name == "cut")
        if name == "addn":
            return (row[1], plus(held[s], number_term(row[3])), False)
        t = row[3]
        if name in ("add", "sub"):
            return (row[1], (plus if name == "add" else minus)(held[s], held[t]), False)
        if name == "mul":
            return (row[1], self.table.product(held[s], held[t]), False)
        if name == "and":
            return (row[1], self.table.both(held[s], held[t]), sure[s] or sure[t])
        return (row[1], self.table.unlike(held[s], held[t]), sure[s] and sure[t])

    def go(self, row):
        """Go through a row."""
        coming, self.late = self.late, None
        change = self.sets(row)
        if row[0] == "load":
            self.late = (row[1], self.word(self.address(row)), True)
            self.loads.append(self.address(row))
        elif row[0] == "store":
            self.stores.append((self.address(row), self.held[row[3]]))
        for spot, term, sure in [one for one in (change, coming) if one is not None]:
            self.held[spot], self.sure[spot] = term, sure

    def recipe(self, recipe):
        """The term of a recipe."""
        term = number_term(recipe[0])
        for s, many in recipe[1]:
            term = plus(term, so_many(self.held[s], many))
        return term

    def asked(self, kind, s, t):
        """What a kind tells of two spots."""
        if kind == "truth":
            return opposite(same_cond(self.table, self.held[s], NONE))
        if kind == "same":
            return same_cond(self.table, self.held[s], self.held[t])
        return less_cond(self.held[s], self.held[t])

    def truth(self, recipe):
        """The cond of a truth's recipe."""
        yes, kind, s, t = recipe
        if kind == "known":
            return (yes, None)
        return self.asked(kind, s, t) if yes else opposite(self.asked(kind, s, t))

    def way(self, way):
        """A way by terms."""
        done, boxes, truths, place = way
        return (done, [self.recipe(one) for one in boxes], [self.truth(one) for one in truths], self.recipe(place))


def seen_rows(table, piece):
    """The stores, outs and tests of a piece, by terms of a table, in their order."""
    walk, seen = Walk(table), []
    for row in piece.rows:
        if row[0] == "store":
            seen.append(("store", walk.address(row), walk.held[row[3]]))
        elif row[0] == "out":
            seen.append(("out", walk.held[row[1]]))
        elif row[0] == "test":
            two = None if row[1] == "truth" else walk.held[row[3]]
            seen.append(("test", row[1], walk.held[row[2]], two, row[4], walk.way(row[5])))
        walk.go(row)
    return seen


def seen_in(way):
    """The spots that a way looks into."""
    spots = {s for n, pairs in way[1] + (way[3],) for s, many in pairs}
    for yes, kind, s, t in way[2]:
        spots |= {"known": set(), "truth": {s}}.get(kind, {s, t})
    return spots


def seen_by(row):
    """The spots that a row looks into."""
    if row[0] == "test":
        return ({row[2]} if row[1] == "truth" else {row[2], row[3]}) | seen_in(row[5])
    return {
        "set": lambda: set(), "copy": lambda: {row[2]}, "cut": lambda: {row[2]}, "addn": lambda: {row[2]},
        "load": lambda: {row[2]}, "store": lambda: {row[1], row[3]}, "out": lambda: {row[1]},
    }.get(row[0], lambda: {row[2], row[3]})()


def all_used(made):
    """The numbers of the rows whose settings are looked into, told apart from the program: by who set each spot."""
    setters, late, seen = {}, None, set()
    for k, row in enumerate(made.rows):
        seen |= {setters.get(s) for s in seen_in(made.ways[k]) | seen_by(row)}
        coming, late = late, None
        if row[0] == "load":
            late = (row[1], k)
        elif row[0] not in ("store", "out", "test"):
            setters[row[1]] = k
        if coming is not None:
            setters[coming[0]] = coming[1]
    seen |= {setters.get(s) for s in seen_in(made.ways[-1])}
    return seen - {None}


def walk_to(table, piece, k):
    """The walk right ahead of row k."""
    walk = Walk(table)
    for row in piece.rows[:k]:
        walk.go(row)
    return walk


def idle_rows(r, piece):
    """A few rows, one behind the other, that may do nothing for a piece."""
    spare = r.choice((9, 10, 11, r.randrange(12)))
    s, t, n = r.randrange(12), r.randrange(12), r.choice((0, 1, r.randrange(4096)))
    loads = [row for row in piece.rows if row[0] == "load"] or [("load", 9, s, n)]
    sum_of = r.choice(("add", "sub", "mul", "and", "xor"))
    return r.choice((
        [("set", spare, n)], [("copy", spare, s)], [("cut", spare, s)], [(sum_of, spare, s, t)], [(sum_of, spare, s, s)],
        [("addn", spare, s, n)], [("cut", s, s)], [("copy", s, s)], [("addn", s, s, 0)], [("xor", s, s, 11)], [("load", spare, s, n)],
        [("load", spare) + r.choice(loads)[2:]], [("load", spare) + r.choice(loads)[2:]], [r.choice(loads)],
        [("addn", spare, s, 0), ("copy", spare, s)], [("addn", spare, s, 0), ("and", spare, s, s)],
        [("addn", spare, s, n), ("addn", spare, spare, (4096 - n) % 4096), ("cut", spare, spare)],
    ))


def other_recipe(r, walk, recipe):
    """A recipe of the same term, by other spots."""
    term, s = walk.recipe(recipe), r.randrange(12)
    rest = minus(term, walk.held[s])
    if rest[1] == ():
        return (rest[0], ((s, 1),))
    return recipe


def other_truth(r, walk, recipe):
    """A truth's recipe of the same cond, by other spots."""
    kind, s, t = r.choice(("same", "less", "truth")), r.randrange(12), r.randrange(12)
    t = 0 if kind == "truth" else t
    for yes in (True, False):
        if walk.truth((yes, kind, s, t)) == walk.truth(recipe):
            return (yes, kind, s, t)
    return recipe


def other_way(r, walk, way):
    """A way that leads to the same by other spots."""
    done, boxes, truths, place = way
    for count in range(8):
        k = r.randrange(4)
        boxes = instead(boxes, k, other_recipe(r, walk, boxes[k]))
        truths = instead(truths, k % 2, other_truth(r, walk, truths[k % 2]))
        place = other_recipe(r, walk, place)
    return (done, boxes, truths, place)


def changed(r, table, piece):
    """A piece changed in one place so that it may be right still."""
    rows, ways = list(piece.rows), list(piece.ways)
    k = r.randrange(len(ways))
    deed = r.randrange(5)
    if deed < 3:
        more = idle_rows(r, piece)
        rows[k:k] = more
        ways[k:k] = [ways[k]] * len(more)
    elif deed == 3:
        ways[k] = other_way(r, walk_to(table, piece, k), ways[k])
        if k < len(rows) and rows[k][0] == "test":
            rows[k] = rows[k][:5] + (other_way(r, walk_to(table, piece, k), rows[k][5]),)
    else:
        ways[k] = ways[max(k - 1, 0)]
    return copied(piece, rows=rows, ways=ways) if len(rows) <= 60 else piece


def random_right(r, table, many=25, most=7):
    """Pages, cells and a right piece, with much that could be left out; None where the start has no step."""
    pages, cells, making = random_making(r, most)
    piece = making.piece()
    for count in range(many if piece is not None else 0):
        other = changed(r, table, piece)
        if judged(pages, other) is None:
            piece = other
    return pages, cells, piece


def fields(piece):
    """A piece's fields, or None."""
    return None if piece is None else (piece.start, piece.text, piece.rows, piece.ways)


def again(piece):
    """A piece like this one, made anew."""
    return Piece(piece.start, piece.text, piece.rows, piece.ways)
