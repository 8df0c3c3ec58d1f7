"""Promises 5.1, 5.2 and 5.5, and 0.2 as far as riding keeps to it: made rows done on a machine, and the ways back."""

import copy
import itertools
import random
import unittest

from likewise.machine import Machine
from likewise.pieces import Piece
from likewise.riding import ridden
from samples import ALL, BOXES, IDLE, NO, NO_READ, NO_WRITE, TRUTHS, YES, instead, number, spot, way, whole

BIG = 16777216
TEXT = ((31, 7),)


def machine(boxes=(0, 0, 0, 0), truths=(False, False), cells=None, pages=(ALL, ALL)):
    """A machine at the place 5, with 7 in the cell 31 where a piece's text is, and 3 steps done."""
    words = list(cells) if cells is not None else [100 + k for k in range(16 * len(pages))]
    if len(words) > 31:
        words[31] = 7
    one = Machine(list(pages), words, list(boxes), 5)
    one.put(list(boxes), truths, 5, 3)
    return one


def show(spots, done=0, truths=TRUTHS, place=9):
    """A way whose boxes are four spots."""
    return (done, tuple(spot(s) for s in spots), truths, number(place))


def piece(rows, ways=None, text=TEXT):
    """A piece at 5 of these rows; each way shows its number by its place and by the steps done."""
    made = [way(k + 1, 40 + k) for k in range(len(rows) + 1)] if ways is None else ways
    return Piece(5, text, tuple(rows), tuple(made))


def words_behind(one, rows):
    """The twelve spots, cut, behind these rows, by rides of machines like one that show four at a time."""
    words = []
    for spots in (range(4), range(4, 8), range(8, 12)):
        rider = one.twin()
        ridden(rider, piece(rows, [show(spots)] * (len(rows) + 1)))
        words.extend(rider.boxes())
    return words


def building(s, n, helper):
    """Rows that set a spot to a number of any size, with the help of another spot."""
    return [
        ("set", s, n // 4096), ("set", helper, 4095), ("mul", helper, helper, s), ("add", s, s, helper),
        ("addn", s, s, n % 4096),
    ]


def numbers_after(rows, boxes, truths, cells):
    """The spots behind rows that all go on, told apart from the program: also the cells and the words told."""
    spots = list(boxes) + [int(truth) for truth in truths] + [0] * 6
    cells, told, late = list(cells), [], None
    for row in rows:
        name, numbers = row[0], row[1:]
        coming, late = late, None
        if name == "load":
            late = (numbers[0], cells[spots[numbers[1]] + numbers[2]])
        elif name == "store":
            cells[spots[numbers[0]] + numbers[1]] = spots[numbers[2]] % 4096
        elif name == "out":
            told.append(spots[numbers[0]] % 4096)
        elif name == "set":
            spots[numbers[0]] = numbers[1]
        elif name in ("copy", "cut"):
            spots[numbers[0]] = spots[numbers[1]] % (4096 if name == "cut" else BIG)
        elif name == "addn":
            spots[numbers[0]] = (spots[numbers[1]] + numbers[2]) % BIG
        else:
            x, y = spots[numbers[1]], spots[numbers[2]]
            results = {"add": x + y, "sub": BIG + x - y, "mul": x * y, "and": x & y, "xor": x ^ y}
            spots[numbers[0]] = results[name] % BIG
        if coming is not None:
            spots[coming[0]] = coming[1]
    return spots, cells, told


class Riding(unittest.TestCase):
    def holds(self, rows, s, n, boxes=(0, 0, 0, 0), truths=(False, False)):
        """Behind the rows a spot below 10 is just a number, of any size."""
        shown = (0, BOXES, ((True, "same", s, 11), (True, "less", s, 11)), number(0))
        every = list(rows) + building(11, n, 10)
        rider = machine(boxes, truths)
        ridden(rider, piece(every, [shown] * (len(every) + 1)))
        self.assertEqual(rider.truths(), (True, False), (rows, s, n))


class Spots(Riding):
    def test_the_beginning(self):
        for truths in itertools.product((False, True), repeat=2):
            one = machine((1, 22, 333, 4095), truths)
            self.assertEqual(words_behind(one, []), [1, 22, 333, 4095, int(truths[0]), int(truths[1])] + [0] * 6)

    def test_what_is_told_of_the_beginning_by_truths(self):
        for zero, less in itertools.product((False, True), repeat=2):
            rider = machine((0, 0, 0, 0), (zero, less))
            ridden(rider, piece([], [(0, BOXES, ((False, "truth", 5, 0), (True, "truth", 4, 0)), number(1))]))
            self.assertEqual(rider.truths(), (not less, zero))

    def test_set_and_copy(self):
        for s, n in itertools.product((0, 3, 5, 9), (0, 1, 4095)):
            self.holds([("set", s, n)], s, n, (9, 9, 9, 9), (True, True))
        self.assertEqual(words_behind(machine((1, 2, 3, 4)), [("copy", 11, 2), ("copy", 0, 3)])[:4], [4, 2, 3, 4])
        self.assertEqual(words_behind(machine((1, 2, 3, 4)), [("copy", 11, 2), ("copy", 0, 3)])[11], 3)
        self.holds(building(6, 5000000, 7) + [("copy", 8, 6)], 8, 5000000)
        self.holds(building(6, 5000000, 7) + [("copy", 8, 6)], 6, 5000000)

    def test_cut(self):
        for n in (0, 1, 4095, 4096, 4097, 8191, 8192, 5000000, BIG - 4096, BIG - 1):
            with self.subTest(n):
                self.holds(building(6, n, 7) + [("cut", 8, 6)], 8, n % 4096)
                self.holds(building(6, n, 7) + [("cut", 8, 6)], 6, n)
                self.holds(building(6, n, 7) + [("cut", 6, 6)], 6, n % 4096)

    def test_addn(self):
        for n, more in itertools.product((0, 1, 4095, 4096, BIG - 4095, BIG - 4094, BIG - 1), (0, 1, 4094, 4095)):
            with self.subTest((n, more)):
                self.holds(building(6, n, 7) + [("addn", 8, 6, more)], 8, (n + more) % BIG)

    def test_reckoning(self):
        edges = (0, 1, 2, 4095, 4096, 4097, 8388608, BIG - 4096, BIG - 1)
        for x, y in itertools.product(edges, edges):
            rows = building(6, x, 8) + building(7, y, 8)
            with self.subTest((x, y)):
                self.holds(rows + [("add", 8, 6, 7)], 8, (x + y) % BIG)
                self.holds(rows + [("sub", 8, 6, 7)], 8, (x - y) % BIG)
                self.holds(rows + [("mul", 8, 6, 7)], 8, (x * y) % BIG)
                self.holds(rows + [("and", 8, 6, 7)], 8, x & y)
                self.holds(rows + [("xor", 8, 6, 7)], 8, x ^ y)

    def test_ordinary_numbers(self):
        for row, n in (
            (("add", 6, 0, 1), 4092 + 10),
            (("sub", 6, 1, 0), 4092 - 10),
            (("sub", 6, 0, 1), BIG - 4082),
            (("mul", 6, 0, 1), 40920),
            (("and", 6, 0, 1), 8),
            (("xor", 6, 0, 1), 4086),
            (("add", 0, 0, 0), 20),
            (("mul", 1, 1, 1), 4092 * 4092),
            (("sub", 1, 1, 1), 0),
        ):
            with self.subTest(row):
                self.holds([row], row[1], n, (10, 4092, 0, 0))


class Late(unittest.TestCase):
    def test_a_word_comes_behind_the_next_row(self):
        one = machine((2, 3, 0, 0))
        self.assertEqual(words_behind(one, [("load", 6, 0, 4)])[6], 0)
        self.assertEqual(words_behind(one, [("load", 6, 0, 4), IDLE])[6], 106)
        self.assertEqual(words_behind(one, [("load", 6, 0, 4), ("copy", 7, 6)])[6:8], [106, 0])
        self.assertEqual(words_behind(one, [("load", 6, 0, 4), IDLE, ("copy", 7, 6)])[6:8], [106, 106])

    def test_the_spot_keeps_what_it_held_till_then(self):
        one = machine((2, 3, 0, 0))
        self.assertEqual(words_behind(one, [("load", 1, 0, 0)])[1], 3)
        self.assertEqual(words_behind(one, [("load", 1, 0, 0), ("copy", 7, 1)])[7], 3)
        self.assertEqual(words_behind(one, [("load", 1, 0, 0), ("copy", 7, 1)])[1], 102)

    def test_it_comes_also_where_the_next_row_set_the_spot(self):
        one = machine((2, 3, 0, 0))
        for row in (("set", 6, 9), ("copy", 6, 1), ("cut", 6, 1), ("add", 6, 0, 1), ("addn", 6, 0, 1), ("xor", 6, 0, 1)):
            self.assertEqual(words_behind(one, [("load", 6, 0, 4), row])[6], 106)
            self.assertEqual(words_behind(one, [("load", 6, 0, 4), IDLE, row])[6] == 106, False)

    def test_loads_one_behind_the_other(self):
        one = machine((2, 3, 0, 0))
        two = [("load", 6, 0, 4), ("load", 7, 0, 5)]
        self.assertEqual(words_behind(one, two)[6:8], [106, 0])
        self.assertEqual(words_behind(one, two + [IDLE])[6:8], [106, 107])
        again = [("load", 6, 0, 4), ("load", 6, 0, 5)]
        self.assertEqual(words_behind(one, again)[6], 106)
        self.assertEqual(words_behind(one, again + [IDLE])[6], 107)

    def test_an_address_looks_at_what_the_spot_held(self):
        cells = [0] * 32
        cells[2], cells[9], cells[11] = 11, 55, 66
        one = machine((2, 9, 0, 0), cells=cells)
        rows = [("load", 1, 0, 0), ("load", 6, 1, 0), IDLE]
        self.assertEqual(words_behind(one, rows)[6], 55)
        self.assertEqual(words_behind(one, [rows[0], IDLE, rows[1], IDLE])[6], 66)

    def test_the_word_that_the_cell_has_at_the_load(self):
        one = machine((2, 3, 0, 0))
        rows = [("load", 6, 0, 4), ("store", 0, 4, 1), ("load", 7, 0, 4), IDLE]
        self.assertEqual(words_behind(one, rows)[6:8], [106, 3])

    def test_a_store_and_an_out_right_behind_look_at_the_old(self):
        rider = machine((2, 3, 0, 0))
        ridden(rider, piece([("load", 1, 0, 4), ("out", 1), ("out", 1), ("load", 1, 0, 5), ("store", 0, 0, 1), IDLE]))
        self.assertEqual(rider.told(), [3, 106])
        self.assertEqual(rider.peek(2), 106)

    def test_a_test_right_behind_looks_at_the_old(self):
        for goes, triple in ((True, (1, 50, "test")), (False, (2, 3, "end"))):
            rider = machine((2, 0, 0, 0))
            test = ("test", "truth", 1, 0, goes, way(50, 60))
            self.assertEqual(ridden(rider, piece([("load", 1, 0, 4), test])), triple)


class CellsAndWords(unittest.TestCase):
    def test_store(self):
        rider = machine((2, 3, 0, 4095))
        self.assertEqual(ridden(rider, piece([("store", 0, 4, 3), ("store", 2, 0, 1), ("store", 1, 4, 0)])), (3, 4, "end"))
        self.assertEqual(rider.stored(), [6, 0, 7])
        self.assertEqual([rider.peek(cell) for cell in (6, 0, 7, 1, 8)], [4095, 3, 2, 101, 108])

    def test_a_store_of_a_spot_beyond_4095_is_cut(self):
        for n in (4096, 4097, 8191, 5000000, BIG - 1):
            rider = machine()
            ridden(rider, piece(building(6, n, 7) + [("store", 0, 4, 6), ("out", 6)]))
            self.assertEqual((rider.peek(4), rider.told()), (n % 4096, [n % 4096]))

    def test_out(self):
        rider = machine((2, 3, 4, 4095))
        ridden(rider, piece([("out", 3), ("out", 0), ("out", 11), ("out", 3)]))
        self.assertEqual(rider.told(), [4095, 2, 0, 4095])
        self.assertEqual(rider.stored(), [])

    def test_words_told_ahead_stay(self):
        rider = machine()
        rider.tell(8)
        rider.poke(3, 9)
        ridden(rider, piece([("out", 0), ("store", 0, 0, 0)]))
        self.assertEqual((rider.told(), rider.stored()), ([8, 0], [3, 0]))

    def test_addresses_are_not_cut(self):
        for s, n, word in ((4095, 1, "read"), (4090, 10, "read"), (4096, 0, "read"), (4097, 4095, "read"), (31, 0, "end"),
                           (32, 0, "read"), (0, 31, "end"), (0, 32, "read"), (16, 15, "end"), (16, 16, "read"),
                           (BIG - 1, 0, "read"), (BIG - 4096, 2, "read"), (0, 4095, "read")):
            rows = building(6, s, 7)
            with self.subTest((s, n)):
                rider = machine()
                left = ridden(rider, piece(rows + [("load", 8, 6, n), IDLE]))
                self.assertEqual(left, (5, 6, "read") if word == "read" else (7, 8, "end"))
                rider = machine()
                left = ridden(rider, piece(rows + [("store", 6, n, 0)], text=((33, 0),)))
                self.assertEqual(left, (5, 6, "write") if word == "read" else (6, 7, "end"))
                self.assertEqual(rider.stored(), [] if word == "read" else [s + n])


class Tests(unittest.TestCase):
    def asked(self, kind, s, t, so, boxes):
        """A test that goes on where it is so, and one that goes on where it is not."""
        for goes in (True, False):
            rider = machine(boxes, (True, False))
            own = (77, instead(BOXES, 3, number(5)), (NO, YES), number(66))
            rows = [("out", 0), ("test", kind, s, t, goes, own), ("out", 1)]
            with self.subTest((kind, s, t, goes)):
                left = ridden(rider, piece(rows))
                if so == goes:
                    self.assertEqual(left, (3, 4, "end"))
                    self.assertEqual(rider.told(), [boxes[0], boxes[1]])
                    self.assertEqual((rider.place(), rider.done(), rider.truths()), (43, 7, (True, False)))
                else:
                    self.assertEqual(left, (1, 77, "test"))
                    self.assertEqual(rider.told(), [boxes[0]])
                    self.assertEqual((rider.place(), rider.done(), rider.truths()), (66, 80, (False, True)))
                    self.assertEqual(rider.boxes(), list(boxes[:3]) + [5])

    def test_same(self):
        for x, y in itertools.product((0, 1, 2048, 4095), repeat=2):
            self.asked("same", 0, 1, x == y, (x, y, 0, 0))
            self.asked("same", 1, 0, x == y, (x, y, 0, 0))
        self.asked("same", 2, 2, True, (1, 2, 3, 4))
        self.asked("same", 4, 0, True, (1, 2, 3, 4))
        self.asked("same", 5, 11, True, (1, 2, 3, 4))

    def test_less(self):
        for x, y in itertools.product((0, 1, 2047, 2048, 4095), repeat=2):
            self.asked("less", 0, 1, x < y, (x, y, 0, 0))
            self.asked("less", 1, 0, y < x, (x, y, 0, 0))
        self.asked("less", 2, 2, False, (1, 2, 3, 4))

    def test_truth(self):
        for x in (0, 1, 2, 4095):
            self.asked("truth", 1, 0, x != 0, (9, x, 0, 0))
        self.asked("truth", 4, 0, True, (0, 0, 0, 0))
        self.asked("truth", 5, 0, False, (7, 0, 0, 0))
        self.asked("truth", 0, 0, True, (7, 0, 0, 0))

    def test_they_look_at_whole_numbers(self):
        for kind, n, so in (("same", 4096, False), ("truth", 4096, True), ("less", 4096, True), ("less", 4097, True)):
            rows = building(6, n, 7) + [("test", kind, 9 if kind != "truth" else 6, 6 if kind != "truth" else 0, so, way(9, 9))]
            self.assertEqual(ridden(machine(), piece(rows))[2], "end")
        rows = building(6, 4096, 7) + [("test", "less", 6, 0, True, way(9, 9))]
        self.assertEqual(ridden(machine((4095, 0, 0, 0)), piece(rows))[2], "test")


class Leaving(unittest.TestCase):
    def test_at_the_end(self):
        for rows in ([], [IDLE], [("out", 0), IDLE, IDLE]):
            rider = machine((1, 2, 3, 4))
            self.assertEqual(ridden(rider, piece(rows)), (len(rows), len(rows) + 1, "end"))
            self.assertEqual((rider.place(), rider.done(), rider.boxes()), (40 + len(rows), 4 + len(rows), [1, 2, 3, 4]))

    def test_the_way_leads_back_by_its_recipes(self):
        recipes = ((5, ((0, 2), (6, 4095))), (0, ((1, 1), (2, 1))), (4095, ()), (1, ((6, 1),)))
        rows = [("addn", 6, 3, 4095)]
        last = (12, recipes, ((False, "less", 6, 3), (True, "truth", 4, 0)), (3, ((0, 1), (1, 2))))
        rider = machine((10, 20, 4090, 4000), (True, True))
        self.assertEqual(ridden(rider, piece(rows, [way(0, 0), last])), (1, 12, "end"))
        self.assertEqual(rider.boxes(), [(5 + 20 - 8095) % 4096, (20 + 4090) % 4096, 4095, 8096 % 4096])
        self.assertEqual((rider.truths(), rider.place(), rider.done()), ((True, True), 53, 15))

    def test_a_way_that_does_no_step(self):
        rider = machine((1, 2, 3, 4), (True, False))
        before = whole(rider)
        self.assertEqual(ridden(rider, piece([IDLE], [way(0, 5), way(0, 5)])), (1, 0, "end"))
        self.assertEqual(whole(rider), before)

    def test_the_greatest_number_of_steps(self):
        rider = machine()
        self.assertEqual(ridden(rider, piece([], [way(99, 5)])), (0, 99, "end"))
        self.assertEqual(rider.done(), 102)

    def test_no_right(self):
        for pages, row, why in (
            ((NO_READ, ALL), ("load", 6, 0, 0), "read"),
            ((ALL, NO_READ), ("load", 6, 0, 0), "end"),
            ((NO_WRITE, ALL), ("load", 6, 0, 0), "end"),
            ((NO_WRITE, ALL), ("store", 0, 0, 0), "write"),
            ((ALL, NO_WRITE), ("store", 0, 0, 0), "end"),
            ((NO_READ, ALL), ("store", 0, 0, 0), "end"),
            ((ALL, NO_READ), ("load", 6, 1, 2), "read"),
            ((ALL, NO_WRITE), ("store", 1, 2, 0), "write"),
        ):
            rider = machine((3, 14, 0, 0), pages=pages)
            with self.subTest((pages, row)):
                left = ridden(rider, piece([("out", 1), row, ("out", 0)]))
                self.assertEqual(left, (3, 4, "end") if why == "end" else (1, 2, why))
                self.assertEqual(rider.told(), [14, 3] if why == "end" else [14])
                self.assertEqual((rider.place(), rider.done()), (43, 7) if why == "end" else (41, 5))
                stores = why == "end" and row[0] == "store"
                self.assertEqual(rider.stored(), [3] if stores else [])

    def test_a_store_into_its_text(self):
        for text, left in ((((3, 9),), 1), (((2, 0), (3, 9), (4, 0)), 1), (((2, 0), (4, 0)), 3), (((3, 9), (4095, 0)), 1)):
            for word in (9, 10):
                rider = machine((3, word, 0, 0), cells=[9] * 32)
                with self.subTest((text, word)):
                    told = ridden(rider, piece([("out", 1), ("store", 0, 0, 1), ("out", 0)], text=text))
                    self.assertEqual(told, (1, 3, "text") if left == 1 else (3, 4, "end"))
                    self.assertEqual((rider.place(), rider.done()), (42, 6) if left == 1 else (43, 7))
                    self.assertEqual((rider.told(), rider.stored()), ([word] if left == 1 else [word, 3], [3]))
                    self.assertEqual(rider.peek(3), word)

    def test_the_last_row_stores_into_its_text(self):
        rider = machine((31, 7, 0, 0))
        self.assertEqual(ridden(rider, piece([("store", 0, 0, 1)])), (0, 2, "text"))
        self.assertEqual((rider.place(), rider.stored(), rider.peek(31)), (41, [31], 7))

    def test_a_break_in_at_each_row(self):
        rows = [("out", 0), ("store", 0, 0, 1), ("load", 6, 0, 0), ("test", "same", 0, 0, True, way(9, 9)), ("set", 0, 8)]
        for last in range(6):
            rider = machine((3, 4, 0, 0))
            with self.subTest(last):
                left = ridden(rider, piece(rows), last)
                self.assertEqual(left, (last, last + 1, "break" if last < 5 else "end"))
                self.assertEqual((rider.told(), rider.stored()), ([3][:last], [3] if last > 1 else []))
                self.assertEqual((rider.place(), rider.done()), (40 + last, 4 + last))
                self.assertEqual(rider.boxes(), [8 if last == 5 else 3, 4, 0, 0])

    def test_a_break_in_without_rows(self):
        self.assertEqual(ridden(machine(), piece([]), 0), (0, 1, "end"))

    def test_a_break_in_comes_ahead_of_what_the_row_would_do(self):
        own = way(9, 9)
        for row, why in ((("load", 6, 0, 0), "read"), (("store", 0, 0, 0), "write"), (("test", "same", 0, 1, True, own), "test")):
            rider = machine((4095, 0, 0, 0))
            self.assertEqual(ridden(rider, piece([IDLE, row, IDLE]), 1), (1, 2, "break"))
            for last in (2, 3, None):
                rider = machine((4095, 0, 0, 0))
                self.assertEqual(ridden(rider, piece([IDLE, row, IDLE]), last), (1, 9 if why == "test" else 2, why))

    def test_a_store_into_its_text_comes_ahead_of_a_break_in_behind_it(self):
        for last, triple in ((0, (0, 1, "break")), (1, (0, 2, "text")), (2, (0, 2, "text")), (None, (0, 2, "text"))):
            self.assertEqual(ridden(machine((31, 0, 0, 0)), piece([("store", 0, 0, 0), IDLE]), last), triple)

    def test_the_first_of_several(self):
        rows = [("test", "truth", 0, 0, False, way(9, 9)), ("load", 6, 1, 0), ("store", 1, 0, 0)]
        self.assertEqual(ridden(machine((0, 4095, 0, 0)), piece(rows)), (1, 2, "read"))
        self.assertEqual(ridden(machine((1, 4095, 0, 0)), piece(rows)), (0, 9, "test"))


class LateWordsLeft(unittest.TestCase):
    def left(self, rows, last=None, boxes=(2, 3, 0, 0), pages=(ALL, ALL), text=TEXT):
        """The word that the spot 6 has when a piece is left, and why."""
        rider = machine(boxes, pages=pages)
        shown = show((6, 6, 6, 6))
        every = [row[:5] + (shown,) if row[0] == "test" else row for row in rows]
        why = ridden(rider, piece(every, [shown] * (len(rows) + 1), text), last)[2]
        return rider.boxes()[0], why

    def test_one_still_on_its_way_is_lost(self):
        load = ("load", 6, 0, 4)
        self.assertEqual(self.left([load]), (0, "end"))
        self.assertEqual(self.left([load, IDLE], 1), (0, "break"))
        self.assertEqual(self.left([load, ("test", "truth", 0, 0, False, None)]), (0, "test"))
        self.assertEqual(self.left([load, ("load", 7, 1, 4095)]), (0, "read"))
        self.assertEqual(self.left([load, ("store", 1, 4095, 0)]), (0, "write"))
        self.assertEqual(self.left([("set", 6, 9), load]), (9, "end"))

    def test_one_that_has_come(self):
        load = ("load", 6, 0, 4)
        self.assertEqual(self.left([load, IDLE]), (106, "end"))
        self.assertEqual(self.left([load, IDLE, IDLE], 2), (106, "break"))
        self.assertEqual(self.left([load, IDLE, ("test", "truth", 0, 0, False, None)]), (106, "test"))
        self.assertEqual(self.left([load, ("test", "truth", 0, 0, True, None)]), (106, "end"))
        self.assertEqual(self.left([load, IDLE, ("load", 7, 1, 4095)]), (106, "read"))
        self.assertEqual(self.left([load, IDLE, ("store", 1, 4095, 0)]), (106, "write"))

    def test_behind_a_store_it_has_come(self):
        rows = [("load", 6, 0, 4), ("store", 1, 0, 0), ("set", 6, 1)]
        self.assertEqual(self.left(rows, text=((3, 103),)), (106, "text"))
        self.assertEqual(self.left([("load", 6, 0, 4), ("store", 1, 0, 0)]), (106, "end"))

    def test_a_late_word_into_the_stores_own_spot(self):
        rider = machine((31, 3, 0, 0))
        rows = [("load", 0, 1, 0), ("store", 0, 0, 1), IDLE]
        self.assertEqual(ridden(rider, piece(rows)), (1, 3, "text"))
        self.assertEqual((rider.stored(), rider.boxes()[0]), ([31], 103))
        rider = machine((30, 3, 0, 0), cells=[31] * 32)
        self.assertEqual(ridden(rider, piece(rows)), (3, 4, "end"))
        self.assertEqual((rider.stored(), rider.boxes()[0]), ([30], 31))


class AtRandom(unittest.TestCase):
    def test_against_numbers_told_apart(self):
        for seed in range(300):
            r = random.Random(seed)
            boxes = [r.choice((r.randrange(4096), 4095, 0, 1)) for k in range(4)]
            truths = (r.random() < 0.5, r.random() < 0.5)
            rows = self.rows(r)
            one = machine(boxes, truths, pages=[ALL] * 8)
            spots, cells, told = numbers_after(rows, boxes, truths, one.cells())
            s, t = r.sample(range(12), 2)
            last = (7, tuple(spot(r.randrange(12)) for k in range(4)), ((True, "same", s, t), (True, "less", s, t)), number(2))
            with self.subTest(seed):
                self.assertEqual(ridden(one, piece(rows, [last] * (len(rows) + 1), ((128, 0),))), (len(rows), 7, "end"))
                self.assertEqual(one.boxes(), [spots[recipe[1][0][0]] % 4096 for recipe in last[1]])
                self.assertEqual(one.truths(), (spots[s] == spots[t], spots[s] < spots[t]))
                self.assertEqual((one.cells(), one.told()), (cells, told))

    def rows(self, r):
        """Rows that are never left: addresses stand in the spots 10 and 11, which keep to cells that are there."""
        rows = [("set", 10, r.randrange(60)), ("set", 11, r.randrange(60))]
        for count in range(r.randrange(1, 50)):
            q, s, t, n = r.randrange(10), r.randrange(12), r.randrange(12), r.choice((0, 1, 4095, r.randrange(4096)))
            rows.append(r.choice((
                ("set", q, n), ("copy", q, s), ("cut", q, s), ("add", q, s, t), ("sub", q, s, t), ("mul", q, s, t),
                ("mul", q, s, t), ("and", q, s, t), ("xor", q, s, t), ("addn", q, s, n), ("out", s),
                ("load", q, r.choice((10, 11)), r.randrange(60)), ("store", r.choice((10, 11)), r.randrange(60), t),
            )))
        return rows


class TheAskersOwn(unittest.TestCase):
    def test_a_piece_stays_and_rides_the_same_again(self):
        rows = (("load", 6, 0, 4), ("out", 1), ("store", 0, 0, 6), ("set", 0, 9))
        made = piece(rows)
        before = copy.deepcopy((made.start, made.text, made.rows, made.ways))
        one, two = machine((2, 3, 0, 0)), machine((2, 3, 0, 0))
        self.assertEqual(ridden(one, made), ridden(two, made))
        self.assertEqual(whole(one), whole(two))
        self.assertEqual((made.start, made.text, made.rows, made.ways), before)

    def test_the_triple(self):
        told = ridden(machine(), piece([IDLE]))
        self.assertIs(type(told), tuple)
        self.assertEqual([type(part) for part in told], [int, int, str])

    def test_the_machine_keeps_nothing_of_a_piece(self):
        rider = machine((2, 3, 0, 0))
        ridden(rider, piece([("out", 0)]))
        self.assertEqual([type(part) for part in rider.state()], [list, tuple, int, list, list, int])
        rider.boxes().append(5)
        self.assertEqual(rider.boxes(), [2, 3, 0, 0])


if __name__ == "__main__":
    unittest.main()
