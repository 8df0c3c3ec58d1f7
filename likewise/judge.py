"""The judge: whether a piece leads to the first machine's states, by terms alone."""

from likewise.pages import PAGE_CELLS, check_pages
from likewise.spots import Spots
from likewise.terms import Table, is_number
from likewise.walk import branch_cond, branch_places, first_state, gone_to, open_row, told_on


def cells_told(pages, text):
    """The cells of a memory by a text alone: None, which begins no row, where it tells no word."""
    words = dict(text)
    return [words.get(cell) for cell in range(PAGE_CELLS * len(pages))]


class Judge:
    """What is told of a piece's first steps, and what its rows have done so far, by terms of one table."""

    def __init__(self, pages, piece):
        table = Table()
        self.table = table
        self.rights = list(pages)
        self.memory = cells_told(pages, piece.text)
        self.spots = Spots(table)
        self.states = self.states_from([first_state(table, piece.start)])

    def states_from(self, states):
        """These states and all that are told behind them."""
        return told_on(self.table, self.rights, self.memory, states)

    def has_loaded(self, addresses):
        """Whether the rows so far loaded each of these addresses."""
        return all([address in self.spots.loads for address in addresses])

    def is_way_right(self, way, states, least):
        """Whether a way leads to one of these states, behind no fewer steps than the least."""
        done, boxes, truths, place = way
        if not least <= done < len(states):
            return False
        told_boxes, told_truths, told_place, events, loads = states[done]
        if events != self.spots.events or not self.has_loaded(loads):
            return False
        terms = tuple([self.spots.recipe_term(recipe) for recipe in boxes])
        conds = tuple([self.spots.recipe_cond(recipe) for recipe in truths])
        return terms == told_boxes and conds == told_truths and self.spots.recipe_term(place) == told_place

    def ends_with_event(self, done):
        """Whether the last of so many steps, among which there is an event, is one."""
        return self.states[done - 1][3] != self.states[done][3]

    def is_next_event(self, event):
        """Whether an event is the first steps' next one, with all loaded that they load ahead of it."""
        many = len(self.spots.events)
        for state in self.states:
            if len(state[3]) > many:
                return state[3][many] == event and self.has_loaded(state[4])
        return False

    def branch_settled(self, step, row):
        """Where an open branch leads where a test goes on, and else; None where the test does not look at it."""
        kind, s, t, goes = row[1:5]
        asked_cond = branch_cond(step, self.states[-1])
        cond = self.spots.kind_cond(kind, s, t)
        if cond is None or cond[1] != asked_cond[1]:
            return None
        gone, not_gone = branch_places(step, self.states[-1])
        if (cond == asked_cond) == goes:
            return (gone, not_gone)
        return (not_gone, gone)

    def back_settled(self, step, row):
        """Where an open back leads where a test goes on, and else; None where the test does not look at it."""
        kind, s, t, goes = row[1:5]
        if kind != "same" or not goes or self.spots.kind_cond(kind, s, t) is None:
            return None
        place = self.states[-1][0][step[1]]
        for one, two in ((s, t), (t, s)):
            if self.spots.held[one] == place and is_number(self.spots.held[two]):
                return (self.spots.held[two], place)
        return None

    def settled(self, row):
        """Where the first open step leads where a test goes on, and else; None where the test settles none."""
        step = open_row(self.rights, self.memory, self.states)
        if step is None:
            return None
        if step[0] == "branch":
            return self.branch_settled(step, row)
        return self.back_settled(step, row)

    def states_by(self, place):
        """The states told where the first open step leads to a place."""
        return self.states_from(self.states + [gone_to(self.states[-1], place)])

    def is_row_right(self, row, least):
        """Whether a row is right, with a test's own way behind no fewer steps than the least."""
        if row[0] in ("store", "out"):
            return self.is_next_event(self.spots.event(row))
        if row[0] != "test":
            return True
        places = self.settled(row)
        return places is not None and self.is_way_right(row[5], self.states_by(places[1]), least)

    def go_through(self, row):
        """Go through a row that is right."""
        if row[0] == "test":
            self.states = self.states_by(self.settled(row)[0])
        self.spots.do(row)


def judged(pages, piece):
    """The number at which a piece is wrong, or None."""
    check_pages(pages)
    judge = Judge(pages, piece)
    least = 0
    ahead = None
    for k, way in enumerate(piece.ways):
        if not judge.is_way_right(way, judge.states, least):
            return k
        # A store into the piece's own text leaves by this way, and what lies behind it is no longer told by the text.
        if ahead == "store" and not judge.ends_with_event(way[0]):
            return k
        if k < len(piece.rows):
            row = piece.rows[k]
            if not judge.is_row_right(row, way[0]):
                return k
            judge.go_through(row)
            ahead = row[0]
        least = way[0]
    return None
