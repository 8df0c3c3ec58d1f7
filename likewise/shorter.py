"""Shorter pieces: without rows that change nothing or are not used, and with what is known by terms told so."""

from likewise.errors import BadPiece
from likewise.judge import judged
from likewise.pieces import Piece
from likewise.spots import Spots
from likewise.terms import Table, is_number
from likewise.uses import is_used, spot_set


def plainer_recipe(spots, recipe):
    """A recipe, without spots where its term is a number."""
    term = spots.recipe_term(recipe)
    return term if is_number(term) else recipe


def plainer_truth(spots, recipe):
    """A truth's recipe that says so where it is known."""
    yes, core = spots.recipe_cond(recipe)
    return (yes, "known", 0, 0) if core is None else recipe


def plainer_way(spots, way):
    """A way whose recipes say what is known."""
    done, boxes, truths, place = way
    return (
        done,
        tuple([plainer_recipe(spots, recipe) for recipe in boxes]),
        tuple([plainer_truth(spots, recipe) for recipe in truths]),
        plainer_recipe(spots, place),
    )


def plainer_row(spots, row):
    """A row that is a set where it sets its spot to a number, or whose own way says what is known."""
    if row[0] == "test":
        return row[:5] + (plainer_way(spots, row[5]),)
    if row[0] == "load" or spot_set(row) is None:
        return row
    term = spots.term_set(row)
    return ("set", row[1], term[0]) if is_number(term) else row


def is_repeat(spots, row):
    """Whether a row that is no load sets a spot to the term that it holds."""
    if row[0] == "load" or spot_set(row) is None:
        return False
    return spots.term_set(row) == spots.held[row[1]]


def must_stay(rows, k):
    """Whether row k stands right behind a load or a store, or would."""
    # A late word comes behind just such a row, and the way ahead of one may lead no further than the store.
    return k > 0 and rows[k - 1][0] in ("load", "store")


def repeat_instead(spots, row):
    """What stands in the place of a row that sets a spot to the term that it holds: a cut, or None for nothing."""
    spot = row[1]
    # What looks into the spot later may need it to be sure. A number is sure whatever sets it here.
    if spots.is_sure_behind(row) and not spots.sure[spot]:
        return ("cut", spot, spot)
    return None


def without_repeats(rows, ways):
    """A pair of rows and ways: what is known is told so, and rows that set a spot to what it holds are left out."""
    spots = Spots(Table())
    kept_rows = []
    kept_ways = [plainer_way(spots, ways[0])]
    for row, way in zip(rows, ways[1:]):
        told = plainer_row(spots, row)
        if is_repeat(spots, told) and not must_stay(kept_rows, len(kept_rows)):
            told = repeat_instead(spots, told)
        if told is None:
            kept_ways.pop()
        else:
            kept_rows.append(told)
            spots.do(told)
        kept_ways.append(plainer_way(spots, way))
    return (kept_rows, kept_ways)


def loads_again(rows):
    """A list: of each row whether it is a load whose address a load ahead of it has."""
    spots = Spots(Table())
    again = []
    for row in rows:
        again.append(row[0] == "load" and spots.address(row) in spots.loads)
        spots.do(row)
    return again


def may_go(rows, ways, k, again):
    """Whether row k can be left out because what it sets is not used."""
    if spot_set(rows[k]) is None or must_stay(rows, k):
        return False
    # The ways need each address that the first machine loads to be loaded once.
    if rows[k][0] == "load" and not again:
        return False
    return not is_used(rows, ways, k)


def without_unused(rows, ways):
    """A pair of rows and ways: rows that set what is not used are left out."""
    again = loads_again(rows)
    kept_rows = list(rows)
    kept_ways = list(ways)
    # From the last on, as a row left out may have been the only one to use what one ahead of it sets.
    for k in range(len(rows) - 1, -1, -1):
        if may_go(kept_rows, kept_ways, k, again[k]):
            kept_rows.pop(k)
            kept_ways.pop(k)
    return (kept_rows, kept_ways)


def shortened(pages, piece):
    """A right piece with no more rows that leads back as a right piece does."""
    wrong = judged(pages, piece)
    if wrong is not None:
        raise BadPiece(wrong)
    ahead = None
    now = (list(piece.rows), list(piece.ways))
    while now != ahead:
        ahead = now
        rows, ways = without_repeats(ahead[0], ahead[1])
        now = without_unused(rows, ways)
    return Piece(piece.start, piece.text, now[0], now[1])
