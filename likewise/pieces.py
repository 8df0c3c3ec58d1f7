"""Pieces: rows of the second machine, with the ways that lead back to the first one's state."""

from likewise.errors import BadPiece
from likewise.words import is_below, is_word

SPOTS = 12
MOST_CELLS = 60
MOST_ROWS = 60
MOST_DONE = 99

# The numbers behind each made row's name, a letter each: the spot r is set, s and t are looked into, n is a word.
MADE_PARTS = {
    "set": "rn",
    "copy": "rs",
    "cut": "rs",
    "add": "rst",
    "sub": "rst",
    "mul": "rst",
    "and": "rst",
    "xor": "rst",
    "addn": "rsn",
    "load": "rsn",
    "store": "snt",
    "out": "s",
}

MADE_BOUNDS = {"r": 12, "s": 12, "t": 12, "n": 4096}


def is_tuple(thing, many):
    """Whether a thing is a tuple of so many things."""
    return isinstance(thing, tuple) and len(thing) == many


def are_pairs(things, bound, least):
    """Whether things are pairs: numbers below the bound, each above the one ahead, and words from the least on."""
    ahead = -1
    for pair in things:
        if not is_tuple(pair, 2) or not is_below(pair[0], bound) or not is_word(pair[1]):
            return False
        if pair[0] <= ahead or pair[1] < least:
            return False
        ahead = pair[0]
    return True


def is_recipe(thing):
    """Whether a thing is a recipe for a word."""
    if not is_tuple(thing, 2) or not is_word(thing[0]):
        return False
    return isinstance(thing[1], tuple) and are_pairs(thing[1], SPOTS, 1)


def is_question(kind, s, t):
    """Whether a test may look so at the spots s and t."""
    if kind == "truth":
        return is_below(s, SPOTS) and is_below(t, 1)
    return kind in ("same", "less") and is_below(s, SPOTS) and is_below(t, SPOTS)


def is_truth_recipe(thing):
    """Whether a thing is a recipe for a truth."""
    if not is_tuple(thing, 4) or not isinstance(thing[0], bool):
        return False
    kind, s, t = thing[1:]
    if kind == "known":
        return is_below(s, 1) and is_below(t, 1)
    return is_question(kind, s, t)


def is_way(thing):
    """Whether a thing is a way back."""
    if not is_tuple(thing, 4):
        return False
    done, boxes, truths, place = thing
    if not is_below(done, MOST_DONE + 1) or not is_tuple(boxes, 4) or not is_tuple(truths, 2):
        return False
    return all([is_recipe(box) for box in boxes + (place,)]) and all([is_truth_recipe(truth) for truth in truths])


def is_test(thing):
    """Whether a tuple that begins as a test is one."""
    if len(thing) != 6:
        return False
    kind, s, t, goes, way = thing[1:]
    return is_question(kind, s, t) and isinstance(goes, bool) and is_way(way)


def is_made_row(thing):
    """Whether a thing is a made row."""
    if not isinstance(thing, tuple) or len(thing) == 0 or not isinstance(thing[0], str):
        return False
    if thing[0] == "test":
        return is_test(thing)
    if thing[0] not in MADE_PARTS:
        return False
    parts = MADE_PARTS[thing[0]]
    if len(thing) != 1 + len(parts):
        return False
    return all([is_below(number, MADE_BOUNDS[part]) for part, number in zip(parts, thing[1:])])


def check_piece(start, text, rows, ways):
    """Refuse what makes no piece."""
    if not is_word(start) or not 1 <= len(text) <= MOST_CELLS or not are_pairs(text, 4096, 0):
        raise BadPiece(-1)
    if len(rows) > MOST_ROWS or len(ways) != len(rows) + 1:
        raise BadPiece(-1)
    for k, way in enumerate(ways):
        if not is_way(way) or (k < len(rows) and not is_made_row(rows[k])):
            raise BadPiece(k)


class Piece:
    """Where it starts, the text that it was made of, its made rows, and a way ahead of each and behind the last."""

    def __init__(self, start, text, rows, ways):
        check_piece(start, text, rows, ways)
        self.start = start
        self.text = tuple(text)
        self.rows = tuple(rows)
        self.ways = tuple(ways)


def recipe_worth(recipe, spots):
    """The word that a recipe tells of the spots."""
    number, pairs = recipe
    return (number + sum([many * spots[spot] for spot, many in pairs])) % 4096


def kind_tells(kind, one, two):
    """What a test's kind tells of what two spots hold."""
    if kind == "same":
        return one == two
    if kind == "less":
        return one < two
    return one != 0


def truth_worth(recipe, spots):
    """The truth that a truth's recipe tells of the spots."""
    yes, kind, s, t = recipe
    if kind == "known":
        return yes
    return kind_tells(kind, spots[s], spots[t]) == yes
