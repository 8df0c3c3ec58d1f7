"""Promises 6.1 to 6.5, and 0.2 and 0.4 as far as likewise.judge keeps to them: at which number a piece is wrong."""

import copy
import random
import unittest

from likewise.errors import BadPages, BadPiece
from likewise.judge import judged
from likewise.pieces import Piece
from samples import (
    ALL, IDLE, NO, NO_READ, NO_RUN, NO_WRITE, TRUTHS, YES, boxes, compare_ride, compare_rides, copied, instead,
    memory, number, random_machine, random_making, spot, text, way,
)

PAGES = [ALL, ALL]

# Behind a row that reckons: what 6 and 7 are alike, or one less than the other.
PAIR = ((True, "same", 6, 7), (True, "less", 6, 7))


def piece(first, rows, ways, at=0, cells=None):
    """A piece of the first machine's rows, written one behind the other."""
    return Piece(at, text(first, at) if cells is None else cells, tuple(rows), tuple(ways))


class Judging(unittest.TestCase):
    def right(self, first, rows, ways, pages=None, at=0):
        """A piece is wrong nowhere, and leads to the machine's own states, however it is left."""
        made = piece(first, rows, ways, at)
        given = PAGES if pages is None else pages
        self.assertIsNone(judged(given, made), (first, rows))
        cells = memory(first, len(given), at)
        compare_rides(self, random.Random(len(rows)), given, cells, made, 12)

    def wrong(self, k, first, rows, ways, pages=None, at=0, cells=None):
        """A piece is wrong at this number."""
        self.assertEqual(judged(PAGES if pages is None else pages, piece(first, rows, ways, at, cells)), k, (first, rows))


def samples():
    """Right pieces: the first machine's rows, made rows, ways."""
    carry = ((False, "truth", 7, 0), (True, "less", 7, 6))
    plain = {
        "set": ([("set", 1, 77)], [("set", 1, 77)], [way(0, 0), way(1, 2)]),
        "move": ([("move", 1, 2)], [("copy", 1, 2)], [way(0, 0), way(1, 1)]),
        "add": (
            [("add", 0, 1)],
            [("copy", 6, 0), ("add", 8, 0, 1), ("cut", 7, 8), ("copy", 0, 7)],
            [way(0, 0)] * 4 + [way(1, 1, carry)],
        ),
        "sub": (
            [("sub", 0, 1)],
            [("copy", 6, 0), ("copy", 7, 1), ("sub", 0, 0, 1)],
            [way(0, 0)] * 3 + [way(1, 1, PAIR)],
        ),
        "cmp": ([("cmp", 0, 1)], [("copy", 6, 0), ("copy", 7, 1)], [way(0, 0)] * 2 + [way(1, 1, PAIR)]),
        "mul": (
            [("mul", 2, 3)],
            [("mul", 6, 2, 3), ("cut", 6, 6)],
            [way(0, 0)] * 2 + [way(1, 1, ((False, "truth", 6, 0), NO), b2=spot(6))],
        ),
        "and": (
            [("and", 2, 3)],
            [("and", 6, 3, 2)],
            [way(0, 0), way(1, 1, ((False, "truth", 6, 0), NO), b2=spot(6))],
        ),
        "xor": (
            [("xor", 2, 3)],
            [("xor", 2, 2, 3)],
            [way(0, 0), way(1, 1, ((True, "same", 2, 11), NO))],
        ),
        "load": ([("load", 1, 2, 5)], [("load", 1, 2, 5), IDLE], [way(0, 0)] * 2 + [way(1, 1)]),
        "store": ([("store", 1, 2, 5)], [("store", 2, 5, 1)], [way(0, 0), way(1, 1)]),
        "out": ([("out", 3)], [("out", 3)], [way(0, 0), way(1, 1)]),
        "jump": ([("jump", 20)], [IDLE], [way(0, 0), way(1, 20)]),
        "branch": (
            [("branch", 0, 20)],
            [("test", "truth", 4, 0, True, way(1, 2))],
            [way(0, 0), way(1, 20)],
        ),
        "call": ([("call", 3, 20)], [("set", 3, 2)], [way(0, 0), way(1, 20)]),
        "back": (
            [("back", 2)],
            [("set", 6, 20), ("test", "same", 2, 6, True, way(1, spot(2)))],
            [way(0, 0)] * 2 + [way(1, 20)],
        ),
    }
    return plain


def several():
    """A right piece of many steps: a load, an out, a cmp, an open branch, a store, a sum and an open back."""
    first = [
        ("load", 1, 0, 3), ("out", 1), ("cmp", 1, 2), ("branch", 2, 8), ("move", 0, 2), ("stop",), ("stop",),
        ("store", 1, 0, 4), ("set", 3, 5), ("add", 3, 1), ("back", 2),
    ]
    carry = ((False, "truth", 8, 0), (True, "less", 8, 9))
    rows = [
        ("load", 1, 0, 3), IDLE, ("out", 1), ("copy", 6, 1), ("copy", 7, 2),
        ("test", "less", 6, 7, True, way(5, 6, PAIR, b0=spot(2))),
        ("store", 0, 4, 1), ("set", 9, 5), ("addn", 8, 1, 5), ("cut", 8, 8), ("copy", 3, 8), ("set", 10, 20),
        ("test", "same", 10, 2, True, way(8, spot(2), carry)),
    ]
    ways = [
        way(0, 0), way(0, 0), way(1, 1), way(2, 2), way(2, 2), way(3, 3, PAIR),
        way(4, 8, PAIR), way(5, 9, PAIR), way(6, 11, PAIR, b3=number(5)), way(6, 11, PAIR, b3=number(5)),
        way(7, 12, carry, b3=spot(8)), way(7, 12, carry), way(7, 12, carry), way(8, 20, carry),
    ]
    return first, rows, ways


class OneStep(Judging):
    def test_each_kind(self):
        for name, sample in samples().items():
            with self.subTest(name):
                self.right(*sample)

    def test_each_kind_elsewhere(self):
        for name in ("set", "move", "load", "store", "out", "sub"):
            first, rows, ways = samples()[name]
            moved = [instead(one, 3, number(one[3][0] + 9)) for one in ways]
            with self.subTest(name):
                self.right(first, rows, moved, at=9)
                self.wrong(0, first, rows, ways, at=9)

    def test_no_rows_at_all(self):
        for first, one in (
            ([("set", 1, 77)], way(1, 2, b1=number(77))),
            ([("move", 1, 2)], way(1, 1, b1=spot(2))),
            ([("jump", 20)], way(1, 20)),
            ([("call", 3, 20)], way(1, 20, b3=number(2))),
            ([("set", 1, 7), ("back", 1)], way(2, 7, b1=number(7))),
            ([("set", 1, 7), ("add", 1, 1)], way(2, 3, (NO, NO), b1=number(14))),
            ([("sub", 1, 1)], way(1, 1, (YES, NO), b1=number(0))),
            ([("sub", 1, 1), ("branch", 0, 9)], way(2, 9, (YES, NO), b1=number(0))),
            ([("sub", 1, 1), ("branch", 1, 9)], way(2, 3, (YES, NO), b1=number(0))),
            ([("sub", 1, 1), ("branch", 2, 9)], way(2, 3, (YES, NO), b1=number(0))),
            ([("sub", 1, 1), ("branch", 3, 9)], way(2, 9, (YES, NO), b1=number(0))),
            ([("stop",)], way(0, 0)),
            ([("out", 1)], way(0, 0)),
        ):
            with self.subTest(first):
                self.right(first, [], [one])
                self.wrong(0, first, [], [instead(one, 0, one[0] + 1)])
                self.wrong(0, first, [], [instead(one, 3, number(one[3][0] + 1))])

    def test_recipes_of_several_spots(self):
        first = [("set", 2, 3), ("set", 3, 5)]
        self.right(first, [], [way(2, 4, b2=number(3), b3=number(5))])
        self.right(first, [("set", 6, 1)], [way(0, 0), way(2, (3, ((6, 1),)), b2=(2, ((6, 1),)), b3=(0, ((6, 5),)))])
        self.right([("sub", 0, 1)], [("copy", 6, 0), ("copy", 7, 1)],
                   [way(0, 0)] * 2 + [way(1, 1, PAIR, b0=(0, ((0, 1), (1, 4095))))])
        self.right([("move", 0, 1)], [("sub", 6, 1, 0)], [way(0, 0), way(1, 1, b0=(0, ((0, 1), (6, 1))))])
        self.wrong(1, [("move", 0, 1)], [("sub", 6, 0, 1)], [way(0, 0), way(1, 1, b0=(0, ((0, 1), (6, 1))))])


class Spoiled(Judging):
    def spoiled(self, one):
        """A way, spoiled in one place each."""
        done, given, truths, place = one
        for other in (done - 1, done + 1, done + 5):
            if other >= 0:
                yield instead(one, 0, other)
        for k, (n, pairs) in enumerate(given):
            yield instead(one, 1, instead(given, k, ((n + 1) % 4096, pairs)))
            yield instead(one, 1, instead(given, k, (n, ((4, 1),))))
            yield instead(one, 1, instead(given, k, (n, tuple((s, many + 1) for s, many in pairs) or ((0, 1),))))
        for k, (yes, kind, s, t) in enumerate(truths):
            yield instead(one, 2, instead(truths, k, (not yes, kind, s, t)))
            yield instead(one, 2, instead(truths, k, (yes, "same", 3, 2)))
            yield instead(one, 2, instead(truths, k, (yes, "less", 3, 1)))
            yield instead(one, 2, instead(truths, k, (True, "known", 0, 0) if kind != "known" else (not yes, kind, s, t)))
        n, pairs = place
        yield instead(one, 3, ((n + 1) % 4096, pairs))
        yield instead(one, 3, ((n + 4095) % 4096, pairs))
        yield instead(one, 3, (n, ((1, 1),)))

    def test_each_way_in_each_place(self):
        for first, rows, ways in list(samples().values()) + [several()]:
            for k, one in enumerate(ways):
                for bad in self.spoiled(one):
                    with self.subTest((first, k, bad)):
                        self.wrong(k, first, rows, instead(tuple(ways), k, bad))

    def test_each_own_way_of_a_test(self):
        for first, rows, ways in (samples()["branch"], samples()["back"], several()):
            for k, row in enumerate(rows):
                if row[0] == "test":
                    for bad in self.spoiled(row[5]):
                        with self.subTest((first, k, bad)):
                            self.wrong(k, first, instead(tuple(rows), k, row[:5] + (bad,)), ways)

    def test_a_row_left_out(self):
        first, rows, ways = several()
        for k, where in ((0, 1), (2, 2), (3, 4), (4, 4), (5, 5), (6, 6), (12, 12)):
            with self.subTest(k):
                self.wrong(where, first, rows[:k] + rows[k + 1:], ways[:k] + ways[k + 1:])

    def test_a_row_told_twice(self):
        first, rows, ways = several()
        for k, where in ((2, 3), (6, 7), (5, 6), (12, 13)):
            with self.subTest(k):
                self.wrong(where, first, rows[:k + 1] + rows[k:], ways[:k + 2] + ways[k + 1:])
        for k in (0, 1):
            # The first load's word has come ahead of the way that still tells the box as it was.
            self.wrong(2, first, rows[:k + 1] + rows[k:], ways[:k + 1] + ways[k:])
        for k in (3, 4, 7, 8, 9, 10, 11):
            with self.subTest(k):
                self.right(first, rows[:k + 1] + rows[k:], ways[:k + 1] + ways[k:])

    def test_a_row_put_in(self):
        first, rows, ways = several()
        for k in range(len(ways)):
            for row, free in ((("out", 2), False), (("store", 0, 4, 2), False), (("set", 11, 1), True), (("load", 11, 1, 1), True)):
                longer = rows[:k] + [row] + rows[k:], ways[:k + 1] + ways[k:]
                with self.subTest((k, row)):
                    if not free:
                        self.wrong(k, first, *longer)
                    elif k == 1:
                        # The word loaded by row 0 has come behind this one.
                        self.wrong(2, first, *longer)
                    else:
                        self.right(first, *longer)

    def test_two_rows_exchanged(self):
        first, rows, ways = several()
        places = (2, 1, 3, None, 4, 5, 7, None, 10, 10, 11, 13)
        for k, where in enumerate(places):
            swapped = rows[:k] + [rows[k + 1], rows[k]] + rows[k + 2:]
            with self.subTest(k):
                self.wrong(where, first, swapped, ways)

    def test_the_first_of_two_wrong_places(self):
        first, rows, ways = several()
        for one in range(len(ways)):
            for two in range(one, len(ways)):
                bad = instead(tuple(ways), one, way(ways[one][0], 30))
                bad = instead(bad, two, way(ways[two][0], 30))
                self.wrong(one, first, rows, bad)
        for one, two in ((2, 5), (2, 6), (5, 6), (6, 12)):
            bad = list(rows)
            for k in (one, two):
                bad[k] = ("out", 11) if bad[k][0] != "test" else bad[k][:2] + (11, 11) + bad[k][4:]
            self.wrong(one, first, bad, ways)

    def test_a_way_comes_ahead_of_its_row(self):
        first, rows, ways = several()
        bad = instead(tuple(rows), 2, ("out", 11))
        self.wrong(2, first, bad, ways)
        self.wrong(2, first, bad, instead(tuple(ways), 2, way(1, 9)))
        self.wrong(3, first, instead(tuple(rows), 6, ("out", 11)), instead(tuple(ways), 3, way(1, 9)))


class Texts(Judging):
    def test_a_cell_too_few(self):
        first, rows, ways = several()
        whole = text(first)
        # The first way that needs the step, or the row that is an event of it or a test of it.
        for cell, k in ((0, 2), (1, 2), (2, 5), (3, 5), (4, 5), (5, 5), (8, 6), (9, 8), (10, 8), (11, 10), (12, 12)):
            with self.subTest(cell):
                self.wrong(k, first, rows, ways, cells=tuple(pair for pair in whole if pair[0] != cell))
        for cell in (6, 7):
            self.wrong(None, first, rows, ways, cells=tuple(pair for pair in whole if pair[0] != cell))

    def test_another_word(self):
        first, rows, ways = several()
        whole = text(first)
        # Another box, another kind of branch, another place, another number.
        for cell, k in ((0, 2), (1, 2), (2, 5), (3, 5), (4, 6), (5, 5), (8, 6), (9, 8), (10, 8), (11, 10), (12, 12)):
            other = 12 * 256 + 1 if cell == 3 else whole[cell][1] ^ 64
            with self.subTest(cell):
                self.wrong(k, first, rows, ways, cells=instead(whole, cell, (cell, other)))

    def test_cells_more(self):
        for first, rows, ways in list(samples().values()) + [several()]:
            more = dict(text(first))
            more.update({25: 4095, 31: 0, 32: 5, 4095: 0})
            self.assertIsNone(judged(PAGES, piece(first, rows, ways, cells=tuple(sorted(more.items())))))

    def test_nothing_told_behind_a_stop_or_no_row(self):
        for last in (0, 1, 48, 4095):
            cells = ((0, 2 * 256), (1, last), (2, 2 * 256))
            self.assertIsNone(judged(PAGES, Piece(0, cells, (), (way(1, 1),))))
            for done, place in ((2, 1), (2, 2), (3, 3)):
                self.assertEqual(judged(PAGES, Piece(0, cells, (), (way(done, place),))), 0)

    def test_a_start_that_is_not_in_the_text(self):
        cells = text([("move", 0, 0)], 4)
        self.assertIsNone(judged(PAGES, Piece(3, cells, (), (way(0, 3),))))
        self.assertEqual(judged(PAGES, Piece(3, cells, (), (way(1, 4),))), 0)
        self.assertEqual(judged(PAGES, Piece(3, cells, (), (way(0, 4),))), 0)
        self.assertIsNone(judged(PAGES, Piece(4, cells, (), (way(1, 5),))))


class Rights(Judging):
    def test_what_may_be_run(self):
        first = [("move", 0, 0), ("set", 1, 5)]
        one = [way(2, 17, b1=number(5))]
        self.right(first, [], one, at=14)
        for pages in ([NO_RUN, ALL], [ALL, NO_RUN], [ALL], [NO_RUN, NO_RUN]):
            with self.subTest(pages):
                self.wrong(0, first, [], one, pages, at=14)
        for pages in ([ALL, NO_RUN], [ALL]):
            self.assertIsNone(judged(pages, piece(first, [], [way(1, 15)], 14)))
            self.wrong(0, first, [], [way(1, 15)], [NO_RUN, ALL], at=14)
        for pages in ([NO_READ, NO_READ], [NO_WRITE, NO_WRITE], [(False, False, True)] * 2):
            self.right(first, [], one, pages, at=14)

    def test_rights_to_read_and_write_are_no_matter(self):
        for name in ("load", "store"):
            for pages in ([NO_READ, NO_READ], [NO_WRITE, NO_WRITE], [ALL], [NO_READ, NO_WRITE]):
                self.right(*samples()[name], pages=pages)

    def test_counts_of_pages(self):
        good = piece(*samples()["out"])
        for pages in ([], [ALL] * 9):
            with self.assertRaises(BadPages):
                judged(pages, good)
            with self.assertRaises(BadPages):
                judged(pages, piece([("out", 3)], [("out", 2)], [way(0, 0), way(1, 1)]))
        for many in range(1, 9):
            self.assertIsNone(judged([ALL] * many, good))


class Counting(Judging):
    def test_no_fewer_steps_than_ahead(self):
        first = [("move", 0, 0), ("move", 1, 1)]
        self.right(first, [IDLE] * 3, [way(0, 0), way(1, 1), way(1, 1), way(2, 2)])
        self.right(first, [IDLE] * 2, [way(2, 2)] * 3)
        self.wrong(1, first, [IDLE] * 2, [way(1, 1), way(0, 0), way(2, 2)])
        self.wrong(2, first, [IDLE] * 2, [way(0, 0), way(2, 2), way(1, 1)])

    def test_ninety_nine_steps(self):
        loop = [("jump", 0)]
        for done in (0, 1, 50, 98, 99):
            self.right(loop, [], [way(done, 0)])
        first = [("move", 0, 0), ("jump", 0)]
        self.right(first, [], [way(98, 0)])
        self.right(first, [], [way(99, 1)])
        with self.assertRaises(BadPiece):
            piece(loop, [], [way(100, 0)])

    def counted(self, more):
        """Rows of 98 steps and so many more, then an open back: the rows, and a way behind them by its done and place."""
        first = [("set", 0, 48), ("set", 1, 1), ("sub", 0, 1), ("branch", 1, 4)] + [("move", 3, 3)] * more + [("back", 2)]
        behind = (98 + more, boxes(b0=number(0), b1=number(1)), (YES, NO), number(7 + more))
        return first, behind

    def test_none_comes_behind_ninety_nine(self):
        for more in (0, 1):
            first, behind = self.counted(more)
            rows = [("set", 6, 9), ("test", "same", 2, 6, True, behind)]
            self.right(first, [], [behind])
            if more == 0:
                ended = instead(instead(behind, 0, 99), 3, number(9))
                self.right(first, rows, [behind, behind, ended])
            else:
                self.wrong(1, first, rows, [behind] * 3)
        first, behind = self.counted(2)
        self.wrong(0, first, [], [instead(instead(behind, 0, 99), 3, number(9))])
        self.right(first, [], [instead(instead(behind, 0, 99), 3, number(8))])


class Events(Judging):
    def test_order_and_words(self):
        first = [("out", 1), ("store", 2, 3, 4), ("out", 2)]
        rows = [("out", 1), ("store", 3, 4, 2), ("out", 2)]
        ways = [way(0, 0), way(1, 1), way(2, 2), way(3, 3)]
        self.right(first, rows, ways)
        for k, bad in (
            (0, ("out", 0)), (0, ("out", 2)), (0, ("store", 3, 4, 2)), (1, ("out", 2)), (1, ("store", 3, 5, 2)),
            (1, ("store", 2, 4, 2)), (1, ("store", 3, 4, 3)), (1, ("store", 3, 4, 1)), (2, ("out", 1)), (2, ("out", 6)),
            (2, ("store", 3, 4, 2)),
        ):
            with self.subTest((k, bad)):
                self.wrong(k, first, instead(tuple(rows), k, bad), ways)

    def test_no_event_behind_the_last(self):
        self.wrong(1, [("out", 1)], [("out", 1)] * 2, [way(0, 0), way(1, 1), way(1, 1)])
        self.wrong(0, [("move", 1, 1)], [("out", 1)], [way(0, 0), way(1, 1)])
        self.wrong(0, [("branch", 0, 9), ("out", 1)], [("out", 1)], [way(0, 0), way(0, 0)])
        self.wrong(0, [("back", 0), ("out", 1)], [("out", 1)], [way(0, 0), way(0, 0)])

    def test_ways_have_just_the_events_ahead(self):
        first = [("move", 0, 0), ("out", 1), ("move", 0, 0), ("out", 2)]
        rows = [("out", 1), ("out", 2)]
        for middle in (2, 3):
            for start in (0, 1):
                self.right(first, rows, [way(start, start), way(middle, middle), way(4, 4)])
        self.wrong(1, first, rows, [way(0, 0), way(1, 1), way(4, 4)])
        self.wrong(1, first, rows, [way(0, 0), way(4, 4), way(4, 4)])
        self.wrong(0, first, rows, [way(2, 2), way(2, 2), way(4, 4)])
        self.wrong(2, first, rows, [way(0, 0), way(2, 2), way(3, 3)])

    def test_addresses_and_values_by_terms(self):
        first = [("store", 1, 2, 9)]
        for rows in (
            [("addn", 6, 2, 4), ("store", 6, 5, 1)],
            [("addn", 6, 2, 10), ("store", 6, 4095, 1)],
            [("set", 6, 9), ("add", 6, 6, 2), ("store", 6, 0, 1)],
            [("copy", 7, 1), ("copy", 6, 2), ("store", 6, 9, 7)],
            [("set", 6, 4095), ("mul", 7, 6, 1), ("mul", 7, 6, 7), ("store", 2, 9, 7)],
            [("add", 6, 1, 2), ("sub", 6, 6, 2), ("store", 2, 9, 6)],
        ):
            with self.subTest(rows):
                self.right(first, rows, [way(0, 0)] * len(rows) + [way(1, 1)])
                more = instead(rows[-1], 2, rows[-1][2] ^ 1)
                self.wrong(len(rows) - 1, first, rows[:-1] + [more], [way(0, 0)] * len(rows) + [way(1, 1)])

    def test_right_behind_a_store_its_step_is_the_last(self):
        first = [("move", 0, 0), ("store", 1, 2, 9), ("move", 3, 3), ("out", 0)]
        store = ("store", 2, 9, 1)
        self.right(first, [store], [way(0, 0), way(2, 2)])
        self.right(first, [store, IDLE], [way(1, 1), way(2, 2), way(3, 3)])
        self.right(first, [store, ("out", 0)], [way(0, 0), way(2, 2), way(4, 4)])
        self.wrong(1, first, [store], [way(0, 0), way(3, 3)])
        self.wrong(1, first, [store, IDLE], [way(0, 0), way(3, 3), way(3, 3)])
        self.wrong(1, first, [store, IDLE], [way(0, 0), way(1, 1), way(2, 2)])
        outs = [("out", 0), ("move", 3, 3)]
        self.right(outs, [("out", 0)], [way(0, 0), way(2, 2)])

    def test_a_load_right_behind_a_store(self):
        first = [("store", 1, 2, 9), ("load", 1, 2, 9)]
        rows = [("store", 2, 9, 1), ("load", 6, 2, 9)]
        self.right(first, rows, [way(0, 0), way(1, 1), way(2, 2)])
        self.wrong(1, first, rows[:1], [way(0, 0), way(2, 2)])

    def test_two_stores(self):
        first = [("store", 1, 2, 9), ("store", 3, 2, 9)]
        rows = [("store", 2, 9, 1), ("store", 2, 9, 3)]
        self.right(first, rows, [way(0, 0), way(1, 1), way(2, 2)])
        self.wrong(0, first, rows[::-1], [way(0, 0), way(1, 1), way(2, 2)])
        self.wrong(0, first, rows[1:], [way(0, 0), way(2, 2)])


class Loads(Judging):
    def test_a_load_too_few(self):
        first = [("load", 1, 2, 5)]
        self.wrong(0, first, [], [way(1, 1)])
        self.right(first, [("load", 6, 2, 5)], [way(0, 0), way(0, 0)])
        self.right(first, [("load", 6, 2, 5), IDLE], [way(0, 0), way(0, 0), way(1, 1, b1=spot(6))])
        self.wrong(2, first, [("load", 6, 2, 4), IDLE], [way(0, 0), way(0, 0), way(1, 1, b1=spot(6))])
        self.wrong(2, first, [("load", 6, 3, 5), IDLE], [way(0, 0), way(0, 0), way(1, 1, b1=spot(6))])

    def test_each_address_even_where_its_word_is_no_more(self):
        first = [("load", 1, 2, 5), ("set", 1, 3)]
        self.right(first, [("load", 6, 2, 5)], [way(0, 0), way(2, 3, b1=number(3))])
        self.wrong(0, first, [], [way(2, 3, b1=number(3))])
        self.wrong(1, first, [IDLE], [way(0, 0), way(2, 3, b1=number(3))])
        self.wrong(1, first, [("load", 6, 2, 6)], [way(0, 0), way(2, 3, b1=number(3))])

    def test_one_load_for_two_of_one_address(self):
        first = [("load", 1, 2, 5), ("load", 3, 2, 5)]
        behind = [way(0, 0), way(0, 0), way(2, 2, b1=spot(6), b3=spot(6))]
        self.right(first, [("load", 6, 2, 5), IDLE], behind)
        first = [("load", 1, 2, 5), ("load", 3, 2, 6)]
        self.wrong(2, first, [("load", 6, 2, 5), IDLE], behind)

    def test_a_load_behind_a_store(self):
        first = [("load", 0, 2, 5), ("store", 1, 3, 4), ("load", 1, 2, 5)]
        rows = [("load", 0, 2, 5), IDLE, ("store", 3, 4, 1), ("load", 1, 2, 5), IDLE]
        ways = [way(0, 0), way(0, 0), way(1, 1), way(2, 2), way(2, 2), way(3, 3)]
        self.right(first, rows, ways)
        # The word may be another behind the store, though the address was loaded ahead of it.
        self.wrong(4, first, rows[:3] + [IDLE], ways[:4] + [way(3, 3, b1=spot(0))])
        self.right(first, rows[:3], ways[:4])

    def test_the_word_stored_last_is_known(self):
        first = [("store", 1, 2, 5), ("load", 3, 2, 5)]
        rows = [("store", 2, 5, 1), ("load", 6, 2, 5)]
        self.right(first, rows, [way(0, 0), way(1, 1), way(2, 2, b3=spot(1))])
        self.right(first, rows + [IDLE], [way(0, 0), way(1, 1), way(1, 1), way(2, 2, b3=spot(6))])
        self.wrong(2, first, [rows[0], IDLE], [way(0, 0), way(1, 1), way(2, 2, b3=spot(1))])

    def test_the_word_of_an_earlier_store_is_not(self):
        first = [("store", 1, 2, 5), ("store", 0, 2, 6), ("load", 3, 2, 5)]
        rows = [("store", 2, 5, 1), ("store", 2, 6, 0), ("load", 6, 2, 5), IDLE]
        ways = [way(0, 0), way(1, 1), way(2, 2), way(2, 2)]
        self.right(first, rows, ways + [way(3, 3, b3=spot(6))])
        for stored in (0, 1):
            self.wrong(4, first, rows, ways + [way(3, 3, b3=spot(stored))])

    def test_the_last_of_two_stores(self):
        first = [("store", 1, 2, 6), ("store", 0, 2, 5), ("load", 3, 2, 5)]
        rows = [("store", 2, 6, 1), ("store", 2, 5, 0), ("load", 6, 2, 5)]
        ways = [way(0, 0), way(1, 1), way(2, 2)]
        self.right(first, rows, ways + [way(3, 3, b3=spot(0))])
        self.wrong(3, first, rows, ways + [way(3, 3, b3=spot(1))])

    def test_outs_are_no_stores(self):
        first = [("store", 1, 2, 5), ("out", 0), ("load", 3, 2, 5)]
        rows = [("store", 2, 5, 1), ("out", 0), ("load", 6, 2, 5)]
        self.right(first, rows, [way(0, 0), way(1, 1), way(2, 2), way(3, 3, b3=spot(1))])
        first = [("load", 0, 2, 5), ("out", 0), ("load", 3, 2, 5)]
        rows = [("load", 0, 2, 5), IDLE, ("out", 0)]
        self.right(first, rows, [way(0, 0), way(0, 0), way(1, 1), way(3, 3, b3=spot(0))])

    def test_events_behind_loads(self):
        for event, row in ((("out", 3), ("out", 3)), (("store", 3, 2, 9), ("store", 2, 9, 3))):
            first = [("load", 1, 2, 5), ("set", 1, 3), event]
            behind = way(3, 4, b1=number(3))
            self.right(first, [("load", 6, 2, 5), row], [way(0, 0), way(0, 0), behind])
            self.wrong(0, first, [row, ("load", 6, 2, 5)], [way(0, 0), behind, behind])
            self.wrong(1, first, [("load", 6, 2, 4), row], [way(0, 0), way(0, 0), behind])
            ahead = [event, ("load", 1, 2, 5), ("set", 1, 3)]
            self.right(ahead, [row, ("load", 6, 2, 5)], [way(0, 0), way(1, 1), way(3, 4, b1=number(3))])

    def test_a_loaded_word_is_late(self):
        first = [("load", 1, 2, 5), ("out", 1)]
        load, out = ("load", 1, 2, 5), ("out", 1)
        self.right(first, [load, IDLE, out], [way(0, 0), way(0, 0), way(1, 1), way(2, 2)])
        self.wrong(1, first, [load, IDLE, out], [way(0, 0), way(1, 1), way(1, 1), way(2, 2)])
        self.wrong(1, first, [load, out], [way(0, 0), way(0, 0), way(2, 2)])
        self.wrong(1, first, [load, out, IDLE], [way(0, 0), way(0, 0), way(2, 2), way(2, 2)])

    def test_it_comes_over_what_the_next_row_set(self):
        first = [("load", 1, 2, 5)]
        load = ("load", 1, 2, 5)
        for row in (("set", 1, 7), ("copy", 1, 0), ("add", 1, 0, 0), ("load", 1, 0, 0)):
            with self.subTest(row):
                self.right(first, [load, row], [way(0, 0), way(0, 0), way(1, 1)])
        self.wrong(3, first, [load, IDLE, ("set", 1, 7)], [way(0, 0), way(0, 0), way(1, 1), way(1, 1)])
        self.wrong(3, first, [load, ("load", 1, 0, 0), IDLE], [way(0, 0), way(0, 0), way(1, 1), way(1, 1)])

    def test_the_next_row_looks_at_the_old(self):
        first = [("move", 3, 1), ("load", 1, 2, 5)]
        self.right(first, [("load", 1, 2, 5), ("copy", 3, 1)], [way(0, 0), way(0, 0), way(2, 2)])
        first = [("load", 1, 2, 5), ("move", 3, 1)]
        self.wrong(2, first, [("load", 1, 2, 5), ("copy", 3, 1)], [way(0, 0), way(0, 0), way(2, 2)])

    def test_a_loads_word_is_that_of_its_own_time(self):
        first = [("load", 3, 2, 5), ("store", 1, 2, 5), ("load", 0, 2, 5)]
        rows = [("load", 3, 2, 5), ("store", 2, 5, 1)]
        self.right(first, [rows[0], IDLE, rows[1]], [way(0, 0), way(0, 0), way(1, 1), way(2, 2)])
        # Right behind the store the word has come.
        self.right(first, rows, [way(0, 0), way(0, 0), way(2, 2)])

    def test_loads_of_any_address_are_right_rows(self):
        self.right([("move", 0, 0)], [("load", 6, 3, 4000), ("load", 7, 0, 1)], [way(0, 0), way(1, 1), way(1, 1)])


class Sure(Judging):
    def sure(self, rows, s, term_rows, is_sure):
        """A truth's recipe and a test that look into a spot are right just where it is sure."""
        first = term_rows
        zero = ((False, "truth", s, 0), NO)
        many = len(rows)
        done = len(first)
        behind = way(done, done, zero, b3=spot(s))
        if is_sure:
            self.right(first, rows, [way(0, 0)] * many + [behind])
        else:
            self.wrong(many, first, rows, [way(0, 0)] * many + [behind])
        for goes in (True, False):
            branch = first + [("branch", 1, 20)]
            # The rows and the test are the same, but the truth is looked into by a cut one.
            cut = [("cut", 10, s)]
            kept = ((False, "truth", 10, 0), NO)
            own = way(done + 1, done + 2 if goes else 20, kept, b3=spot(s))
            on = way(done + 1, 20 if goes else done + 2, kept, b3=spot(s))
            test = ("test", "truth", s, 0, goes, own)
            ways = [way(0, 0)] * (many + 2) + [on]
            if is_sure:
                self.right(branch, rows + cut + [test], ways)
            else:
                self.wrong(many + 1, branch, rows + cut + [test], ways)
            self.right(branch, rows + cut + [test[:2] + (10,) + test[3:]], ways)

    def test_what_is_sure(self):
        both = [("and", 3, 2)]
        unlike = [("xor", 3, 2)]
        product = [("mul", 3, 2)]
        unsure = [("add", 6, 3, 2), ("sub", 6, 6, 2)]
        unsure_too = [("add", 7, 2, 3), ("sub", 7, 7, 3)]
        for rows, s, first, is_sure in (
            ([("and", 8, 2, 3)], 8, both, True),
            (unsure + [("and", 8, 6, 2)], 8, both, True),
            (unsure + [("and", 8, 2, 6)], 8, both, True),
            (unsure + unsure_too + [("and", 8, 6, 7)], 8, both, False),
            (unsure + unsure_too + [("and", 8, 6, 7), ("cut", 8, 8)], 8, both, True),
            ([("xor", 8, 2, 3)], 8, unlike, True),
            (unsure + [("xor", 8, 6, 2)], 8, unlike, False),
            (unsure + [("xor", 8, 2, 6)], 8, unlike, False),
            (unsure + [("cut", 6, 6), ("xor", 8, 2, 6)], 8, unlike, True),
            ([("mul", 8, 2, 3)], 8, product, False),
            ([("mul", 8, 2, 3), ("copy", 9, 8)], 9, product, False),
            ([("mul", 8, 2, 3), ("cut", 9, 8)], 9, product, True),
            ([("mul", 8, 2, 3), ("cut", 9, 8), ("copy", 7, 9)], 7, product, True),
            ([("xor", 8, 2, 3), ("addn", 8, 8, 0)], 8, unlike, False),
            ([("xor", 8, 2, 3), ("add", 8, 8, 11)], 8, unlike, False),
            ([("xor", 8, 2, 3), ("sub", 8, 8, 11)], 8, unlike, False),
            ([("xor", 8, 2, 3), ("set", 7, 1), ("mul", 8, 8, 7)], 8, unlike, False),
        ):
            with self.subTest(rows):
                self.sure(rows, s, first, is_sure)

    def test_each_spot_at_the_start(self):
        for s in range(6, 12):
            other = 11 if s != 11 else 10
            self.right([("sub", 0, 0)], [], [way(1, 1, ((True, "same", s, other), NO), b0=number(0))])
        self.right([("cmp", 0, 1)], [], [way(1, 1, ((True, "same", 0, 1), (True, "less", 0, 1)))])
        self.right([("cmp", 2, 3)], [], [way(1, 1, ((True, "same", 2, 3), (True, "less", 2, 3)))])
        for s, t in ((4, 5), (5, 4)):
            zero = ((True, "truth", s, 0), TRUTHS[1])
            told = judged(PAGES, piece([("stop",)], [], [way(0, 0, zero)]))
            self.assertEqual(told, None if s == 4 else 0)

    def test_both_spots(self):
        first = [("cmp", 0, 1)]
        unsure = [("add", 6, 0, 2), ("sub", 6, 6, 2)]
        for kind, s, t, k in (("same", 6, 1, 2), ("same", 1, 6, 2), ("less", 6, 1, 2), ("same", 0, 1, None), ("less", 0, 1, None)):
            truths = [(True, "same", 0, 1), (True, "less", 0, 1)]
            truths[0 if kind == "same" else 1] = (True, kind, s, t)
            told = judged(PAGES, piece(first, unsure, [way(0, 0)] * 2 + [way(1, 1, tuple(truths))]))
            self.assertEqual(told, k, (kind, s, t))
        first = [("cmp", 1, 0)]
        for truths, k in (((((True, "same", 1, 6)), (True, "less", 1, 0)), 2), ((((True, "same", 1, 0)), (True, "less", 1, 6)), 2)):
            self.assertEqual(judged(PAGES, piece(first, unsure, [way(0, 0)] * 2 + [way(1, 1, truths)])), k)

    def test_behind_set_and_load(self):
        first = [("load", 1, 2, 5), ("cmp", 1, 0)]
        truths = ((True, "same", 6, 0), (True, "less", 6, 0))
        rows = [("add", 6, 0, 1), ("load", 6, 2, 5), IDLE]
        self.right(first, rows, [way(0, 0)] * 3 + [way(2, 2, truths, b1=spot(6))])
        first = [("set", 1, 5), ("cmp", 1, 0)]
        rows = [("add", 6, 0, 1), ("set", 6, 5)]
        self.right(first, rows, [way(0, 0)] * 2 + [way(2, 3, truths, b1=number(5))])

    def test_a_spot_stays_unsure_till_its_late_word_comes(self):
        first = [("xor", 3, 2)]
        rows = [("xor", 8, 2, 3), ("addn", 8, 8, 0), ("load", 8, 0, 0)]
        zero = ((False, "truth", 8, 0), NO)
        self.wrong(3, first, rows, [way(0, 0)] * 3 + [way(1, 1, zero, b3=spot(8))])
        rows = [("xor", 8, 2, 3), ("load", 8, 0, 0)]
        self.right(first, rows, [way(0, 0)] * 2 + [way(1, 1, zero, b3=spot(8))])

    def test_recipes_of_words_need_no_sure_spots(self):
        first = [("add", 0, 1), ("sub", 0, 0)]
        rows = [("add", 6, 0, 1)]
        self.right(first, rows, [way(0, 0), way(2, 2, (YES, NO), b0=number(0))])
        self.right([("move", 0, 1)], [("addn", 6, 1, 4), ("sub", 7, 6, 0)],
                   [way(0, 0)] * 2 + [way(1, 1, b0=(4092, ((6, 1),)))])

    def test_kinds_without_spots(self):
        rows = [("add", 0, 0, 1)]
        self.wrong(1, [("set", 0, 0), ("cmp", 0, 0)], rows, [way(0, 0), way(2, 3, (YES, NO))])
        self.right([("set", 0, 0), ("cmp", 0, 0)], rows, [way(0, 0), way(2, 3, (YES, NO), b0=number(0))])


class Truths(Judging):
    def test_what_the_truths_are(self):
        for first, truths, others in (
            ([("cmp", 0, 1)], ((True, "same", 0, 1), (True, "less", 0, 1)), {}),
            ([("cmp", 0, 1)], ((True, "same", 1, 0), (True, "less", 0, 1)), {}),
            ([("cmp", 0, 0)], (YES, NO), {}),
            ([("cmp", 0, 0)], ((True, "same", 3, 3), (True, "less", 3, 3)), {}),
            ([("cmp", 0, 0)], ((False, "less", 3, 11), (True, "less", 3, 11)), {}),
            ([("set", 0, 0), ("cmp", 1, 0)], ((False, "truth", 1, 0), NO), {"b0": number(0)}),
            ([("set", 0, 0), ("cmp", 0, 1)], ((False, "truth", 1, 0), (True, "less", 11, 1)), {"b0": number(0)}),
            ([("set", 0, 0), ("add", 1, 0)], ((False, "truth", 1, 0), NO), {"b0": number(0)}),
            ([("set", 0, 0), ("add", 0, 1)], ((False, "truth", 1, 0), NO), {"b0": spot(1)}),
            ([("set", 0, 1), ("mul", 1, 0)], ((False, "truth", 1, 0), NO), {"b0": number(1)}),
            ([("and", 1, 1)], ((False, "truth", 1, 0), NO), {}),
            ([("xor", 1, 1)], (YES, NO), {"b1": number(0)}),
        ):
            with self.subTest(first):
                done = len(first)
                place = len(text(first))
                self.right(first, [], [way(done, place, truths, **others)])
                for k in range(2):
                    yes, kind, s, t = truths[k]
                    bad = instead(truths, k, (not yes, kind, s, t))
                    self.wrong(0, first, [], [way(done, place, bad, **others)])

    def test_less_of_a_sum_is_asked_of_what_x_was(self):
        first = [("add", 0, 1)]
        rows = [("add", 6, 0, 1), ("cut", 6, 6)]
        zero = (False, "truth", 6, 0)
        self.right(first, rows, [way(0, 0)] * 2 + [way(1, 1, (zero, (True, "less", 6, 0)), b0=spot(6))])
        self.wrong(2, first, rows, [way(0, 0)] * 2 + [way(1, 1, (zero, (True, "less", 6, 1)), b0=spot(6))])
        self.wrong(2, first, rows, [way(0, 0)] * 2 + [way(1, 1, (zero, (True, "less", 0, 6)), b0=spot(6))])
        self.wrong(2, first, rows, [way(0, 0)] * 2 + [way(1, 1, (zero, NO), b0=spot(6))])
        first = [("add", 1, 1)]
        rows = [("add", 6, 1, 1), ("cut", 6, 6)]
        self.right(first, rows, [way(0, 0)] * 2 + [way(1, 1, (zero, (True, "less", 6, 1)), b1=spot(6))])

    def test_less_of_sub_is_asked_of_both_as_they_were(self):
        first = [("sub", 0, 1)]
        self.right(first, [], [way(1, 1, ((True, "same", 0, 1), (True, "less", 0, 1)), b0=(0, ((0, 1), (1, 4095))))])
        rows = [("sub", 6, 0, 1), ("cut", 0, 6)]
        self.wrong(2, first, rows, [way(0, 0), way(0, 0), way(1, 1, ((True, "same", 0, 11), (True, "less", 0, 1)))])

    def test_the_truths_at_the_start(self):
        first = [("move", 0, 0)]
        swap = (TRUTHS[1], TRUTHS[0])
        self.wrong(0, first, [], [way(1, 1, swap)])
        for truths in (((False, "same", 4, 11), (False, "same", 11, 5)), (TRUTHS[0], (False, "same", 5, 6))):
            self.right(first, [], [way(1, 1, truths)])
        one = [("set", 6, 1)]
        same = ((True, "same", 4, 6), (True, "same", 6, 5))
        self.right(first, one, [way(0, 0), way(1, 1, same)])
        two = [("set", 6, 2)]
        self.wrong(1, first, two, [way(0, 0), way(1, 1, same)])

    def test_truths_in_recipes_of_words(self):
        first = [("set", 0, 0), ("move", 1, 0)]
        self.wrong(0, first, [], [way(2, 3, b0=spot(4), b1=number(0))])


class Branches(Judging):
    def test_each_kind_both_ways(self):
        for kind in range(4):
            first = [("branch", kind, 20)]
            s = 4 + kind // 2
            so = kind % 2 == 0
            for goes in (True, False):
                on, off = (20, 2) if goes == so else (2, 20)
                for rows, ahead in (
                    ([("test", "truth", s, 0, goes, way(1, off))], 0),
                    ([("test", "same", s, 11, not goes, way(1, off))], 0),
                    ([("test", "same", 11, s, not goes, way(1, off))], 0),
                    ([("set", 6, 1), ("test", "same", 6, s, goes, way(1, off))], 1),
                ):
                    with self.subTest((kind, rows)):
                        self.right(first, rows, [way(0, 0)] * (ahead + 1) + [way(1, on)])
                        self.wrong(ahead + 1, first, rows, [way(0, 0)] * (ahead + 1) + [way(1, off)])
                        turned = rows[:-1] + [rows[-1][:4] + (not rows[-1][4], rows[-1][5])]
                        self.wrong(ahead, first, turned, [way(0, 0)] * (ahead + 1) + [way(1, on)])

    def test_of_compared_words(self):
        first = [("cmp", 0, 1), ("branch", 2, 20)]
        truths = ((True, "same", 0, 1), (True, "less", 0, 1))
        for kind, s, t, k in (("less", 0, 1, None), ("less", 1, 0, 0), ("same", 0, 1, 0), ("truth", 0, 0, 0), ("truth", 5, 0, 0),
                              ("less", 0, 2, 0)):
            rows = [("test", kind, s, t, True, way(2, 3, truths))]
            self.assertEqual(judged(PAGES, piece(first, rows, [way(0, 0), way(2, 20, truths)])), k, (kind, s, t))
        first = [("cmp", 0, 1), ("branch", 1, 20)]
        for s, t in ((0, 1), (1, 0)):
            self.right(first, [("test", "same", s, t, False, way(2, 3, truths))], [way(0, 0), way(2, 20, truths)])
            self.right(first, [("test", "same", s, t, True, way(2, 20, truths))], [way(0, 0), way(2, 3, truths)])
        self.wrong(0, first, [("test", "less", 0, 1, False, way(2, 3, truths))], [way(0, 0), way(2, 20, truths)])

    def test_no_test_without_an_open_step(self):
        test = ("test", "truth", 4, 0, True, way(0, 0))
        for first in ([("move", 0, 0)], [("stop",)], [("jump", 4)], [("sub", 0, 0), ("branch", 0, 9)]):
            self.wrong(0, first, [test], [way(0, 0), way(0, 0)])
        known = ("test", "same", 11, 10, True, way(0, 0))
        self.wrong(0, [("move", 0, 0)], [known], [way(0, 0), way(0, 0)])
        self.wrong(0, [("branch", 0, 9)], [known], [way(0, 0), way(0, 0)])

    def test_not_told_till_it_is_settled(self):
        first = [("branch", 0, 4), ("move", 0, 0)]
        for done, place in ((1, 2), (1, 4), (2, 3), (2, 5)):
            self.wrong(0, first, [], [way(done, place)])
        self.right(first, [], [way(0, 0)])

    def test_steps_told_both_ways(self):
        first = [("branch", 0, 4), ("set", 0, 7), ("set", 1, 8), ("branch", 0, 9)]
        gone = way(2, 6, b1=number(8))
        through = way(3, 6, b0=number(7), b1=number(8))
        for goes, on, offs in (
            (True, (way(1, 4), gone), (way(0, 0), way(1, 2), way(2, 4, b0=number(7)), through)),
            (False, (way(1, 2), way(2, 4, b0=number(7)), through), (way(0, 0), way(1, 4), gone)),
        ):
            for off in offs:
                for last in on:
                    with self.subTest((goes, off, last)):
                        self.right(first, [("test", "truth", 4, 0, goes, off)], [way(0, 0), last])
            for bad in (offs[-1], way(4, 9), way(4, 8)):
                self.wrong(1, first, [("test", "truth", 4, 0, goes, offs[0])], [way(0, 0), bad])
            for bad in (on[-1], way(4, 9), way(4, 8), instead(offs[-1], 0, 4), instead(offs[-1], 0, offs[-1][0] - 1)):
                self.wrong(0, first, [("test", "truth", 4, 0, goes, bad)], [way(0, 0), on[0]])

    def test_an_own_way_has_no_fewer_steps_than_the_way_ahead(self):
        first = [("move", 1, 1), ("move", 2, 2), ("branch", 0, 20)]
        for ahead in range(3):
            for own in range(4):
                rows = [("test", "truth", 4, 0, True, way(own, own if own < 3 else 4))]
                k = 0 if own < ahead else None
                self.assertEqual(judged(PAGES, piece(first, rows, [way(ahead, ahead), way(3, 20)])), k, (ahead, own))

    def test_the_way_behind_a_test_is_held_to_the_way_ahead_alone(self):
        first = [("move", 1, 1), ("branch", 0, 20)]
        rows = [("test", "truth", 4, 0, True, way(2, 3)), IDLE]
        self.right(first, rows, [way(0, 0), way(1, 1), way(2, 20)])
        self.wrong(1, first, rows, [way(1, 1), way(0, 0), way(2, 20)])

    def test_each_open_branch_needs_its_own_test(self):
        first = [("branch", 0, 0)]
        test = ("test", "truth", 4, 0, True, way(1, 2))
        self.right(first, [test], [way(0, 0), way(1, 0)])
        self.wrong(1, first, [test], [way(0, 0), way(2, 0)])
        again = ("test", "truth", 4, 0, True, way(2, 2))
        self.right(first, [test, again], [way(0, 0), way(1, 0), way(2, 0)])
        first = [("branch", 0, 2), ("branch", 0, 20)]
        rows = [("test", "truth", 4, 0, False, way(1, 2)), ("test", "truth", 4, 0, True, way(2, 4))]
        self.right(first, rows, [way(0, 0), way(1, 2), way(2, 20)])

    def test_a_test_of_a_later_branch_ahead_of_the_first(self):
        first = [("branch", 0, 9), ("branch", 2, 20)]
        zero = ("test", "truth", 4, 0, False, way(0, 0))
        less = ("test", "truth", 5, 0, True, way(0, 0))
        self.right(first, [zero, less], [way(0, 0)] * 2 + [way(2, 20)])
        self.wrong(0, first, [less, zero], [way(0, 0)] * 2 + [way(2, 20)])

    def test_a_test_ahead_of_events(self):
        first = [("out", 1), ("store", 1, 2, 3), ("branch", 0, 20)]
        own = way(0, 0)
        rows = [("test", "truth", 4, 0, True, own), ("out", 1), ("store", 2, 3, 1), IDLE]
        ways = [way(0, 0), way(0, 0), way(1, 1), way(2, 2), way(3, 20)]
        self.right(first, rows, ways)
        for bad in (way(1, 1), way(2, 2), way(3, 4)):
            self.wrong(0, first, [rows[0][:5] + (bad,)] + rows[1:], ways)

    def test_a_test_right_behind_a_store(self):
        first = [("store", 1, 2, 3), ("branch", 0, 20)]
        for own in (way(1, 1), way(2, 3)):
            rows = [("store", 2, 3, 1), ("test", "truth", 4, 0, True, own)]
            self.right(first, rows, [way(0, 0), way(1, 1), way(2, 20)])

    def test_an_own_way_needs_the_loads_and_events_ahead(self):
        first = [("branch", 0, 20), ("load", 1, 2, 3), ("set", 1, 1), ("out", 0)]
        test = ("test", "truth", 4, 0, True, way(3, 5, b1=number(1)))
        self.wrong(0, first, [test], [way(0, 0), way(1, 20)])
        self.right(first, [("load", 6, 2, 3), test], [way(0, 0), way(0, 0), way(1, 20)])
        out = ("test", "truth", 4, 0, True, way(4, 6, b1=number(1)))
        self.wrong(1, first, [("load", 6, 2, 3), out], [way(0, 0), way(0, 0), way(1, 20)])

    def test_both_places_alike(self):
        first = [("branch", 0, 2), ("move", 0, 1)]
        for goes in (True, False):
            own = way(2, 3, b0=spot(1))
            self.right(first, [("test", "truth", 4, 0, goes, own)], [way(0, 0), way(2, 3, b0=spot(1))])


class Backs(Judging):
    def test_to_a_number(self):
        first = [("move", 1, 1), ("back", 2)]
        own = way(2, spot(2))
        for s, t in ((2, 6), (6, 2)):
            rows = [("set", 6, 20), ("test", "same", s, t, True, own)]
            self.right(first, rows, [way(0, 0), way(1, 1), way(2, 20)])
            self.wrong(2, first, rows, [way(0, 0), way(1, 1), way(2, 21)])
            self.wrong(2, first, rows, [way(0, 0), way(1, 1), way(2, spot(2))])
            self.wrong(1, first, [rows[0], rows[1][:4] + (False, own)], [way(0, 0), way(1, 1), way(2, 20)])
        for test in (("less", 2, 6), ("less", 6, 2), ("truth", 2, 0), ("same", 2, 2), ("same", 6, 6), ("same", 1, 6), ("same", 2, 3),
                     ("same", 6, 11)):
            rows = [("set", 6, 20), ("test",) + test + (True, own)]
            self.wrong(1, first, rows, [way(0, 0), way(1, 1), way(2, 20)])

    def test_to_the_place_0(self):
        first = [("back", 2)]
        self.right(first, [("test", "same", 2, 11, True, way(1, spot(2)))], [way(0, 0), way(1, 0)])
        self.wrong(0, first, [("test", "truth", 2, 0, False, way(1, spot(2)))], [way(0, 0), way(1, 0)])
        self.wrong(0, first, [("test", "truth", 2, 0, True, way(1, spot(2)))], [way(0, 0), way(1, 0)])

    def test_own_ways(self):
        first = [("move", 1, 1), ("back", 2), ("move", 3, 3)]
        rows = [("set", 6, 2)]
        ways = [way(0, 0), way(0, 0), way(3, 3)]
        for own in (way(0, 0), way(1, 1), way(2, spot(2))):
            self.right(first, rows + [("test", "same", 2, 6, True, own)], ways)
        for bad in (way(2, 2), way(3, 3), way(3, 1), way(3, spot(2)), way(3, spot(2, 1, 1)), way(2, spot(3)), way(1, spot(2)), way(2, number(0))):
            self.wrong(1, first, rows + [("test", "same", 2, 6, True, bad)], ways)
        # The place is what the box was at the back, whatever spot holds it.
        self.right(first, rows + [("copy", 7, 2), ("test", "same", 7, 6, True, way(2, spot(7)))], ways[:1] * 3 + ways[2:])

    def test_steps_behind_are_told_once_it_is_settled(self):
        first = [("back", 2), ("set", 0, 5)]
        test = ("test", "same", 2, 6, True, way(1, spot(2)))
        self.right(first, [("set", 6, 1), test], [way(0, 0), way(0, 0), way(2, 3, b0=number(5))])
        self.wrong(2, first, [("set", 6, 2), test], [way(0, 0), way(0, 0), way(2, 3, b0=number(5))])
        self.right(first, [("set", 6, 0), test], [way(0, 0), way(0, 0), way(1, 0)])
        self.wrong(0, first, [], [way(1, spot(2))])
        self.wrong(0, first, [], [way(1, 1)])

    def test_sure_spots_alone(self):
        first = [("back", 2)]
        own = way(1, spot(2))
        ways = [way(0, 0)] * 3 + [way(1, 20)]
        self.wrong(2, first, [("set", 6, 19), ("addn", 6, 6, 1), ("test", "same", 2, 6, True, own)], ways)
        self.right(first, [("set", 6, 19), ("addn", 6, 6, 1), ("cut", 6, 6), ("test", "same", 2, 6, True, own)], ways[:1] + ways)
        self.wrong(2, first, [("set", 6, 20), ("addn", 7, 2, 0), ("test", "same", 7, 6, True, own)], ways)
        self.right(first, [("set", 6, 20), ("copy", 7, 2), ("test", "same", 7, 6, True, own)], ways)

    def test_a_place_that_is_a_truth_and_a_number(self):
        first = [("add", 2, 2), ("back", 2)]
        twice = ((False, "truth", 6, 0), (True, "less", 6, 2))
        rows = [("add", 6, 2, 2), ("cut", 6, 6), ("set", 7, 8), ("test", "same", 6, 7, True, way(2, spot(6), twice, b2=spot(6)))]
        self.right(first, rows, [way(0, 0)] * 4 + [way(2, 8, twice, b2=spot(6))])

    def test_a_back_to_what_was_called(self):
        first = [("call", 3, 5), ("stop",), ("stop",), ("stop",), ("back", 3)]
        self.right(first, [], [way(2, 2, b3=number(2))])
        self.wrong(0, first, [("test", "same", 3, 11, True, way(2, spot(3)))], [way(0, 0), way(2, 0)])


class Several(Judging):
    def test_right(self):
        self.right(*several())

    def test_left_by_each_way(self):
        first, rows, ways = several()
        made = piece(first, rows, ways)
        cells = memory(first)
        cells[23] = 9
        seen = set()
        for pages in (PAGES, [ALL, NO_READ], [ALL, NO_WRITE]):
            r = random.Random(5)
            for count in range(40):
                one = random_machine(r, pages, cells, made)
                for words in ([20, 0, 3, 0], [20, 0, 20, 0], [4, 0, 4095, 0], [4095, 0, 0, 0], [20, 0, 4000, 0]):
                    one.put(words, one.truths(), 0, 0)
                    seen.add(compare_ride(self, one, made)[::2])
        self.assertEqual({why for row, why in seen}, {"read", "write", "test", "text", "end"})
        self.assertEqual({row for row, why in seen}, {0, 5, 6, 12, 13})

    def test_a_piece_without_steps(self):
        for row in (IDLE, ("load", 6, 0, 0), ("set", 6, 9), ("mul", 7, 0, 1)):
            self.right([("stop",)], [row], [way(0, 0)] * 2)
        self.wrong(1, [("stop",)], [("set", 0, 9)], [way(0, 0)] * 2)


class AtRandom(Judging):
    def test_made_pieces_are_right(self):
        for seed in range(150):
            pages, cells, making = random_making(random.Random(seed))
            if making.piece() is not None:
                self.assertIsNone(judged(pages, making.piece()), seed)

    def changed(self, r, made):
        """A piece with a thing or two changed at random, or None."""
        rows, ways, cells = list(made.rows), list(made.ways), list(made.text)
        for count in range(r.choice((1, 1, 2))):
            k = r.randrange(len(ways))
            deed = r.randrange(6)
            if deed == 0 and len(rows) > 1:
                rows.pop(k % len(rows))
                ways.pop(k)
            elif deed == 1:
                row = r.choice((("copy", k % 12, 3), ("load", 9, 1, 2), ("cut", 2, 2), ("addn", k % 12, 1, 0)))
                rows.insert(k, row)
                ways.insert(k, ways[k])
            elif deed == 2 and len(rows) > 1:
                k = k % (len(rows) - 1)
                rows[k], rows[k + 1] = rows[k + 1], rows[k]
            elif deed == 3:
                ways[k] = ways[r.randrange(len(ways))]
            elif deed == 4 and rows:
                k = k % len(rows)
                spots = [n for n, part in enumerate(rows[k]) if n > 0 and isinstance(part, int) and part < 12]
                if spots:
                    rows[k] = instead(rows[k], r.choice(spots), r.randrange(12))
            elif deed == 5 and len(cells) > 1:
                cells.pop(k % len(cells))
        try:
            return copied(made, cells=cells, rows=rows, ways=ways)
        except BadPiece:
            return None

    def test_what_is_let_by_leads_to_the_machines_own_states(self):
        let_by = 0
        for seed in range(250):
            r = random.Random(seed)
            pages, cells, making = random_making(r, 6)
            made = making.piece()
            for count in range(6 if made is not None else 0):
                other = self.changed(r, made)
                if other is not None and judged(pages, other) is None:
                    let_by += 1
                    compare_rides(self, r, pages, cells, other, 2)
        self.assertGreater(let_by, 100)


class TheAskersOwn(Judging):
    def test_nothing_handed_in_is_changed_and_the_same_is_told_again(self):
        for first, rows, ways in list(samples().values()) + [several()]:
            made = piece(first, rows, ways)
            pages = list(PAGES)
            before = copy.deepcopy((made.start, made.text, made.rows, made.ways, pages))
            for count in range(3):
                self.assertIsNone(judged(pages, made))
            self.assertEqual((made.start, made.text, made.rows, made.ways, pages), before)
            pages[0] = NO_RUN
            self.assertIsNotNone(judged(pages, made))
            self.assertIsNone(judged(PAGES, made))


if __name__ == "__main__":
    unittest.main()
