"""Paths: steps made one behind the other, each open one to where most steps led from its place."""

from likewise.maker import Making, check_most


def make_next(making, counts):
    """Make the next step, an open one to the guess at its place: whether it was made."""
    word = making.step()
    if word != "open":
        return word == ""
    to = counts.guess(making.place())
    return to is not None and making.guessed(to) == ""


def path_made(pages, cells, start, most, counts):
    """A pair: the path's piece in the making, and the list of the start and of where each step leads."""
    check_most(most)
    making = Making(pages, cells, start)
    places = [start]
    while making.steps() < most and make_next(making, counts):
        places.append(making.place())
    return (making, places)


def path_places(pages, cells, start, most, counts):
    """The list of the start and of where each of the path's steps leads."""
    making, places = path_made(pages, cells, start, most, counts)
    return places


def path_piece(pages, cells, start, most, counts):
    """The piece of the path's steps, or None without one."""
    making, places = path_made(pages, cells, start, most, counts)
    return making.piece()
