"""Pages with their rights, memories, and texts that stand in them."""

from likewise.errors import BadPages, BadState
from likewise.words import is_below, is_word

PAGE_CELLS = 16


def check_pages(pages):
    """Refuse pages that are none or too many."""
    if not 1 <= len(pages) <= 8:
        raise BadPages("there are 1 to 8 pages")


def are_words(things, many):
    """Whether things are just so many words."""
    return len(things) == many and all([is_word(thing) for thing in things])


def check_state(pages, cells, boxes, place):
    """Refuse bad pages, then a memory, boxes or a place that are none."""
    check_pages(pages)
    if not are_words(cells, PAGE_CELLS * len(pages)):
        raise BadState("the cells are not a word for each of the pages' cells")
    if not are_words(boxes, 4):
        raise BadState("the boxes are not four words")
    if not is_word(place):
        raise BadState("the place is no word")


def has_right(pages, cell, right):
    """Whether a cell is there and its page has a right, by where it stands in the triple."""
    return is_below(cell, PAGE_CELLS * len(pages)) and pages[cell // PAGE_CELLS][right]


def may_read(pages, cell):
    """Whether a cell may be read."""
    return has_right(pages, cell, 0)


def may_write(pages, cell):
    """Whether a cell may be written."""
    return has_right(pages, cell, 1)


def may_run(pages, cell):
    """Whether a cell may be run."""
    return has_right(pages, cell, 2)


def text_of(cells, some):
    """The text of some cells of a memory; one that is not there has no word to tell."""
    there = [cell for cell in some if is_below(cell, len(cells))]
    return tuple([(cell, cells[cell]) for cell in sorted(set(there))])


def text_stands(cells, text):
    """Whether a text's cells are all there, with its words."""
    return all([is_below(cell, len(cells)) and cells[cell] == word for cell, word in text])
