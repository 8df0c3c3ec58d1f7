"""Uses: which spots rows and ways look into, and whether what a row sets is looked into ahead of its being set anew."""

from likewise.pieces import MADE_PARTS


def asked_spots(kind, s, t):
    """The spots that a test or a truth's recipe of this kind looks into."""
    if kind == "known":
        return []
    if kind == "truth":
        return [s]
    return [s, t]


def way_spots(way):
    """The spots that a way looks into."""
    done, boxes, truths, place = way
    spots = []
    for number, pairs in boxes + (place,):
        spots.extend([spot for spot, many in pairs])
    for yes, kind, s, t in truths:
        spots.extend(asked_spots(kind, s, t))
    return spots


def row_spots(row):
    """The spots that a row looks into, with those of a test's own way."""
    if row[0] == "test":
        return asked_spots(row[1], row[2], row[3]) + way_spots(row[5])
    return [number for part, number in zip(MADE_PARTS[row[0]], row[1:]) if part in ("s", "t")]


def spot_set(row):
    """The spot that a row sets, or None."""
    if row[0] == "test" or "r" not in MADE_PARTS[row[0]]:
        return None
    return row[1]


def is_load_into(rows, k, spot):
    """Whether row k is there and a load whose word comes into this spot."""
    return 0 <= k < len(rows) and rows[k][0] == "load" and rows[k][1] == spot


def is_set_anew(rows, k, spot):
    """Whether a spot is set anew by the time that row k is done: by that row, or by the late word of the load ahead."""
    if is_load_into(rows, k - 1, spot):
        return True
    return rows[k][0] != "load" and spot_set(rows[k]) == spot


def is_looked_into(rows, ways, first, spot):
    """Whether what a spot holds at the way of this number is looked into ahead of its being set anew."""
    for k in range(first, len(ways)):
        if spot in way_spots(ways[k]):
            return True
        if k == len(rows):
            return False
        if spot in row_spots(rows[k]):
            return True
        if is_set_anew(rows, k, spot):
            return False
    return False


def is_used(rows, ways, k):
    """Whether what row k of these sets is used."""
    spot = spot_set(rows[k])
    if spot is None:
        return False
    if rows[k][0] == "load":
        return is_looked_into(rows, ways, k + 2, spot)
    # A late word into the same spot comes over what this row sets.
    if is_load_into(rows, k - 1, spot):
        return False
    return is_looked_into(rows, ways, k + 1, spot)


def used(piece, k):
    """Whether what row k of a piece sets is used; a row that is not there sets nothing."""
    return 0 <= k < len(piece.rows) and is_used(piece.rows, piece.ways, k)
