"""The walk: the first machine's steps told by terms, as far as nothing must be looked at to know where they lead.

A state by terms is a tuple: the boxes (terms), the truths (conds), the place (a term), all events so far and all
addresses loaded so far. An event is ("store", address, value) or ("out", word), of terms.
"""

from likewise.conds import less_cond, opposite, same_cond
from likewise.machine import RECKONING, row_at
from likewise.pieces import MOST_DONE
from likewise.rows import cells_of
from likewise.terms import NOUGHT, is_number, minus, number_term, plus

# The rows that set their box x.
FILLING = ("set", "move", "add", "sub", "mul", "and", "xor", "load", "call")


def first_state(table, start):
    """The state by terms at a start."""
    boxes = tuple([table.box(k) for k in range(4)])
    truths = ((True, ("truth", 0)), (True, ("truth", 1)))
    return (boxes, truths, (start, ()), (), ())


def result_term(table, name, x, y):
    """The term of what comes of two terms by a row that reckons."""
    if name == "add":
        return plus(x, y)
    if name == "mul":
        return table.product(x, y)
    if name == "and":
        return table.both(x, y)
    if name == "xor":
        return table.unlike(x, y)
    return minus(x, y)


def word_at(table, address, events):
    """The term of the word at an address behind these events."""
    stores = [event for event in events if event[0] == "store"]
    if len(stores) > 0 and stores[-1][1] == address:
        return stores[-1][2]
    return table.cell(address, len(stores))


def address_term(row, boxes):
    """The address that a load or a store is about."""
    return plus(boxes[row[2]], number_term(row[3]))


def behind_cells(row, state):
    """The place behind the cells of the row at the place."""
    return number_term(state[2][0] + len(cells_of(row)))


def filling(table, row, state):
    """The term that a row sets its box to."""
    boxes = state[0]
    if row[0] == "set":
        return number_term(row[2])
    if row[0] == "move":
        return boxes[row[2]]
    if row[0] == "load":
        return word_at(table, address_term(row, boxes), state[3])
    if row[0] == "call":
        return behind_cells(row, state)
    return result_term(table, row[0], boxes[row[1]], boxes[row[2]])


def boxes_behind(table, row, state):
    """The boxes behind a row."""
    boxes = list(state[0])
    if row[0] in FILLING:
        boxes[row[1]] = filling(table, row, state)
    return tuple(boxes)


def truths_behind(table, row, state):
    """The truths behind a row."""
    if row[0] not in RECKONING:
        return state[1]
    name = row[0]
    x = state[0][row[1]]
    y = state[0][row[2]]
    result = result_term(table, name, x, y)
    zero = same_cond(table, result, NOUGHT)
    if name == "add":
        return (zero, less_cond(result, x))
    if name in ("sub", "cmp"):
        return (zero, less_cond(x, y))
    return (zero, (False, None))


def branch_cond(row, state):
    """The cond by which a branch is gone."""
    kind = row[1]
    cond = state[1][kind // 2]
    return cond if kind % 2 == 0 else opposite(cond)


def branch_places(row, state):
    """A pair: where a branch leads when it is gone, and when it is not."""
    return (number_term(row[2]), behind_cells(row, state))


def place_behind(row, state):
    """Where a row leads; an open back leads to its box's term, which is no number."""
    if row[0] in ("jump", "call"):
        return number_term(row[-1])
    if row[0] == "back":
        return state[0][row[1]]
    if row[0] == "branch" and branch_cond(row, state)[0]:
        return number_term(row[2])
    return behind_cells(row, state)


def events_behind(row, state):
    """All events behind a row."""
    boxes = state[0]
    if row[0] == "store":
        return state[3] + (("store", address_term(row, boxes), boxes[row[1]]),)
    if row[0] == "out":
        return state[3] + (("out", boxes[row[1]]),)
    return state[3]


def loads_behind(row, state):
    """All addresses loaded behind a row."""
    if row[0] == "load":
        return state[4] + (address_term(row, state[0]),)
    return state[4]


def state_behind(table, row, state):
    """The state behind a row, which is no open branch."""
    return (
        boxes_behind(table, row, state),
        truths_behind(table, row, state),
        place_behind(row, state),
        events_behind(row, state),
        loads_behind(row, state),
    )


def gone_to(state, place):
    """The state behind an open step that leads to a place."""
    boxes, truths, here, events, loads = state
    return (boxes, truths, place, events, loads)


def is_open(row, state):
    """Whether where a row leads must be looked at."""
    if row[0] == "branch":
        return branch_cond(row, state)[1] is not None
    return row[0] == "back" and not is_number(state[0][row[1]])


def next_step(pages, cells, state):
    """A pair: "" or "open" and the row of the next step, or why there is none and None."""
    place = state[2]
    # Where a back's place was left open nothing is known of what lies there.
    if not is_number(place):
        return ("run", None)
    word, row = row_at(pages, cells, place[0])
    if row is None:
        return (word, None)
    if row[0] == "stop":
        return ("stop", None)
    return ("open" if is_open(row, state) else "", row)


def told_on(table, pages, cells, states):
    """These states, one for each number of steps from 0 on, and all that can be told behind the last of them."""
    told = list(states)
    while len(told) <= MOST_DONE:
        word, row = next_step(pages, cells, told[-1])
        if word != "" or row is None:
            return told
        told.append(state_behind(table, row, told[-1]))
    return told


def open_row(pages, cells, states):
    """The row of the open step right behind all states that are told, or None."""
    if len(states) > MOST_DONE:
        return None
    word, row = next_step(pages, cells, states[-1])
    return row if word == "open" else None
