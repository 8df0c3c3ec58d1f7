"""Promises 3.1, 3.2 and 3.3, and 2.1, 2.2, 0.2 and 0.4 as far as the machine keeps to them."""

import copy
import itertools
import random
import unittest

from likewise.errors import BadPages, BadState
from likewise.machine import Machine
from likewise.pages import may_run, text_of, text_stands
from likewise.rows import cells_of

ALL = (True, True, True)
NO_RUN = (True, True, False)
NO_READ = (False, True, True)
NO_WRITE = (True, False, True)
TRUTHS = tuple(itertools.product((False, True), repeat=2))
EDGES = (0, 1, 2, 3, 7, 63, 64, 1000, 2047, 2048, 2049, 4093, 4094, 4095)


def memory(rows, many=1, at=0, rest=0):
    """The cells of so many pages with rows written one behind the other, the others all alike."""
    words = [word for row in rows for word in cells_of(row)]
    cells = [rest] * (16 * many)
    cells[at:at + len(words)] = words
    return cells[:16 * many]


def machine(*rows, boxes=(0, 0, 0, 0), truths=(False, False), at=0, pages=(ALL, ALL), rest=0):
    """A machine that stands at these rows."""
    made = Machine(list(pages), memory(rows, len(pages), at, rest), list(boxes), at)
    made.put(list(boxes), truths, at, 0)
    return made


def whole(one):
    """All that a machine has."""
    return (one.state(), one.stored(), one.pages())


def reckoned(name, x, y):
    """What comes of x and y, and the truth less, told apart from the program."""
    return {
        "add": ((x + y) % 4096, x + y >= 4096),
        "sub": ((x + 4096 - y) % 4096, y > x),
        "cmp": ((x + 4096 - y) % 4096, y > x),
        "mul": (sum(x for k in range(y)) % 4096, False),
        "and": (sum(2 ** k for k in range(12) if x >> k & 1 == 1 and y >> k & 1 == 1), False),
        "xor": (sum(2 ** k for k in range(12) if x >> k & 1 != y >> k & 1), False),
    }[name]


class Beginnings(unittest.TestCase):
    def test_what_a_new_one_has(self):
        cells = list(range(32))
        one = Machine([ALL, NO_RUN], cells, [1, 2, 3, 4095], 4095)
        self.assertEqual(one.pages(), [ALL, NO_RUN])
        self.assertEqual(one.cells(), cells)
        self.assertEqual(one.boxes(), [1, 2, 3, 4095])
        self.assertEqual(one.truths(), (False, False))
        self.assertEqual(one.place(), 4095)
        self.assertEqual(one.told(), [])
        self.assertEqual(one.stored(), [])
        self.assertEqual(one.done(), 0)
        self.assertEqual(one.state(), ([1, 2, 3, 4095], (False, False), 4095, cells, [], 0))

    def test_the_kinds_of_what_is_told(self):
        one = machine(("out", 0), ("store", 0, 1, 0))
        one.steps(2)
        for told in (one.pages(), one.cells(), one.boxes(), one.told(), one.stored()):
            self.assertIs(type(told), list)
        self.assertIs(type(one.truths()), tuple)
        self.assertIs(type(one.state()), tuple)
        self.assertEqual([type(part) for part in one.state()], [list, tuple, int, list, list, int])

    def test_refusals(self):
        good = [[ALL], [0] * 16, [0] * 4, 0]
        for k, wrong, refusal in (
            (0, [], BadPages),
            (0, [ALL] * 9, BadPages),
            (1, [0] * 15, BadState),
            (1, [0] * 17, BadState),
            (1, [0] * 15 + [4096], BadState),
            (1, [-1] + [0] * 15, BadState),
            (2, [0] * 3, BadState),
            (2, [0] * 5, BadState),
            (2, [0, 0, 0, 4096], BadState),
            (2, [0, True, 0, 0], BadState),
            (3, 4096, BadState),
            (3, -1, BadState),
        ):
            with self.subTest((k, wrong)), self.assertRaises(refusal):
                Machine(*(good[:k] + [wrong] + good[k + 1:]))

    def test_the_pages_come_first(self):
        for pages in ([], [ALL] * 9):
            with self.subTest(len(pages)), self.assertRaises(BadPages):
                Machine(pages, [4096], [], -1)

    def test_one_page_and_eight(self):
        for many in (1, 8):
            one = Machine([ALL] * many, [256, 7] * (8 * many), [0] * 4, 0)
            self.assertEqual(one.steps(100), (8 * many, "run"))
            self.assertEqual(one.place(), 16 * many)


class Filling(unittest.TestCase):
    def test_set(self):
        for x, n, truths in itertools.product(range(4), (0, 1, 77, 4095), TRUTHS):
            one = machine(("set", x, n), boxes=(5, 6, 7, 8), truths=truths)
            cells = one.cells()
            self.assertEqual(one.step(), "")
            boxes = [5, 6, 7, 8]
            boxes[x] = n
            self.assertEqual(one.state(), (boxes, truths, 2, cells, [], 1))

    def test_move(self):
        for x, y, truths in itertools.product(range(4), range(4), TRUTHS):
            one = machine(("move", x, y), boxes=(0, 6, 77, 4095), truths=truths)
            cells = one.cells()
            self.assertEqual(one.step(), "")
            boxes = [0, 6, 77, 4095]
            boxes[x] = boxes[y]
            self.assertEqual(one.state(), (boxes, truths, 1, cells, [], 1))

    def test_out(self):
        for x, truths in itertools.product(range(4), TRUTHS):
            one = machine(("out", x), ("out", 3), boxes=(0, 6, 77, 4095), truths=truths)
            cells = one.cells()
            self.assertEqual(one.step(), "")
            self.assertEqual(one.state(), ([0, 6, 77, 4095], truths, 1, cells, [(0, 6, 77, 4095)[x]], 1))
            self.assertEqual(one.step(), "")
            self.assertEqual(one.told(), [(0, 6, 77, 4095)[x], 4095])


class Reckoning(unittest.TestCase):
    def test_by_hand(self):
        for name, x, y, result, zero, less in (
            ("add", 5, 7, 12, False, False),
            ("add", 0, 0, 0, True, False),
            ("add", 4094, 1, 4095, False, False),
            ("add", 4095, 0, 4095, False, False),
            ("add", 4095, 1, 0, True, True),
            ("add", 4095, 2, 1, False, True),
            ("add", 4095, 4095, 4094, False, True),
            ("sub", 7, 5, 2, False, False),
            ("sub", 7, 7, 0, True, False),
            ("sub", 0, 0, 0, True, False),
            ("sub", 4095, 4095, 0, True, False),
            ("sub", 5, 7, 4094, False, True),
            ("sub", 0, 1, 4095, False, True),
            ("sub", 0, 4095, 1, False, True),
            ("sub", 4095, 0, 4095, False, False),
            ("mul", 5, 7, 35, False, False),
            ("mul", 0, 7, 0, True, False),
            ("mul", 64, 64, 0, True, False),
            ("mul", 4095, 4095, 1, False, False),
            ("mul", 100, 100, 1808, False, False),
            ("and", 12, 10, 8, False, False),
            ("and", 5, 10, 0, True, False),
            ("and", 4095, 77, 77, False, False),
            ("and", 77, 0, 0, True, False),
            ("xor", 12, 10, 6, False, False),
            ("xor", 77, 77, 0, True, False),
            ("xor", 4095, 77, 4018, False, False),
            ("xor", 77, 0, 77, False, False),
            ("cmp", 7, 5, 7, False, False),
            ("cmp", 7, 7, 7, True, False),
            ("cmp", 5, 7, 5, False, True),
            ("cmp", 0, 4095, 0, False, True),
            ("cmp", 4095, 0, 4095, False, False),
        ):
            for truths in TRUTHS:
                with self.subTest((name, x, y), truths=truths):
                    one = machine((name, 1, 3), boxes=(9, x, 8, y), truths=truths)
                    cells = one.cells()
                    self.assertEqual(one.step(), "")
                    self.assertEqual(one.state(), ([9, result, 8, y], (zero, less), 1, cells, [], 1))
                    self.assertTrue(all(type(truth) is bool for truth in one.truths()))

    def test_edges_with_edges(self):
        one = machine()
        for number, name in enumerate(("add", "sub", "mul", "and", "xor", "cmp")):
            one.poke(0, cells_of((name, 0, 2))[0])
            for x, y in itertools.product(EDGES, EDGES):
                one.put([x, 1, y, 2], TRUTHS[(x + y + number) % 4], 0, 0)
                self.assertEqual(one.step(), "")
                result, less = reckoned(name, x, y)
                self.assertEqual(one.truths(), (result == 0, less), (name, x, y))
                self.assertEqual(one.boxes(), [x if name == "cmp" else result, 1, y, 2], (name, x, y))

    def test_every_pair_of_boxes(self):
        boxes = [3, 1000, 2050, 4095]
        for name in ("add", "sub", "mul", "and", "xor", "cmp"):
            for x, y in itertools.product(range(4), range(4)):
                with self.subTest((name, x, y)):
                    one = machine((name, x, y), boxes=boxes)
                    one.step()
                    result, less = reckoned(name, boxes[x], boxes[y])
                    after = list(boxes)
                    if name != "cmp":
                        after[x] = result
                    self.assertEqual((one.boxes(), one.truths()), (after, (result == 0, less)))


class LoadAndStore(unittest.TestCase):
    def test_load(self):
        for y, m, cell in ((0, 0, 0), (16, 0, 16), (20, 3, 23), (16, 15, 31), (31, 0, 31), (4095, 1, 0), (4095, 15, 14),
                           (4081, 15, 0), (4090, 8, 2)):
            for truths in TRUTHS:
                with self.subTest((y, m), truths=truths):
                    cells = [2048 + k for k in range(32)]
                    cells[5] = cells_of(("load", 1, 2, m))[0]
                    one = Machine([ALL, ALL], cells, [9, 9, y, 9], 5)
                    one.put([9, 9, y, 9], truths, 5, 0)
                    self.assertEqual(one.step(), "")
                    self.assertEqual(one.state(), ([9, cells[cell], y, 9], truths, 6, cells, [], 1))
                    self.assertEqual(one.stored(), [])

    def test_load_over_its_own_address(self):
        one = machine(("load", 2, 2, 4), boxes=(0, 0, 3, 0), rest=777)
        self.assertEqual(one.step(), "")
        self.assertEqual(one.boxes(), [0, 0, 777, 0])

    def test_store(self):
        for y, m, cell in ((1, 0, 1), (16, 0, 16), (20, 3, 23), (16, 15, 31), (31, 0, 31), (4095, 2, 1), (4095, 15, 14),
                           (4082, 15, 1), (4090, 8, 2)):
            for truths in TRUTHS:
                with self.subTest((y, m), truths=truths):
                    one = machine(("store", 1, 2, m), boxes=(9, 4095, y, 9), truths=truths)
                    cells = one.cells()
                    self.assertEqual(one.step(), "")
                    cells[cell] = 4095
                    self.assertEqual(one.state(), ([9, 4095, y, 9], truths, 1, cells, [], 1))
                    self.assertEqual(one.stored(), [cell])

    def test_store_of_its_own_address(self):
        one = machine(("store", 2, 2, 1), boxes=(0, 0, 30, 0))
        self.assertEqual(one.step(), "")
        self.assertEqual(one.peek(31), 30)

    def test_a_store_may_write_over_rows(self):
        one = machine(("store", 0, 1, 0), ("out", 2), boxes=(cells_of(("out", 3))[0], 1, 50, 60))
        self.assertEqual(one.steps(2), (2, ""))
        self.assertEqual(one.told(), [60])

    def test_a_store_over_its_own_row(self):
        one = machine(("store", 0, 1, 0), boxes=(cells_of(("out", 3))[0], 0, 50, 60))
        self.assertEqual(one.step(), "")
        self.assertEqual(one.place(), 1)
        self.assertEqual(one.peek(0), cells_of(("out", 3))[0])

    def test_each_store_is_kept_each_time(self):
        one = machine(("store", 0, 1, 0), ("store", 0, 1, 0), ("store", 0, 1, 2), ("store", 0, 1, 0), boxes=(0, 20, 0, 0))
        one.steps(4)
        self.assertEqual(one.stored(), [20, 20, 22, 20])


class Going(unittest.TestCase):
    def test_jump(self):
        for n, truths in itertools.product((0, 1, 15, 16, 31, 32, 4095), TRUTHS):
            one = machine(("jump", n), at=4, boxes=(1, 2, 3, 4), truths=truths)
            cells = one.cells()
            self.assertEqual(one.step(), "")
            self.assertEqual(one.state(), ([1, 2, 3, 4], truths, n, cells, [], 1))

    def test_branch(self):
        for kind, truths, n in itertools.product(range(4), TRUTHS, (0, 9, 4095)):
            gone = ((0, True), (0, False), (1, True), (1, False))[kind]
            one = machine(("branch", kind, n), at=4, boxes=(1, 2, 3, 4), truths=truths)
            cells = one.cells()
            self.assertEqual(one.step(), "")
            place = n if truths[gone[0]] is gone[1] else 6
            self.assertEqual(one.state(), ([1, 2, 3, 4], truths, place, cells, [], 1), (kind, truths))

    def test_call(self):
        for x, n, truths in itertools.product(range(4), (0, 4, 17, 4095), TRUTHS):
            one = machine(("call", x, n), at=4, boxes=(1, 2, 3, 5), truths=truths)
            cells = one.cells()
            self.assertEqual(one.step(), "")
            boxes = [1, 2, 3, 5]
            boxes[x] = 6
            self.assertEqual(one.state(), (boxes, truths, n, cells, [], 1))

    def test_back(self):
        for x, truths in itertools.product(range(4), TRUTHS):
            one = machine(("back", x), at=4, boxes=(0, 9, 31, 4095), truths=truths)
            cells = one.cells()
            self.assertEqual(one.step(), "")
            self.assertEqual(one.state(), ([0, 9, 31, 4095], truths, (0, 9, 31, 4095)[x], cells, [], 1))

    def test_call_and_back(self):
        one = machine(("call", 2, 9), ("out", 2), at=4)
        one.poke(9, cells_of(("back", 2))[0])
        self.assertEqual(one.steps(3), (3, ""))
        self.assertEqual((one.place(), one.told(), one.done()), (7, [6], 3))

    def test_rows_that_end_at_the_last_cell(self):
        for row in (("set", 1, 9), ("move", 1, 2), ("call", 1, 9), ("jump", 9), ("branch", 1, 9)):
            for many in (1, 2, 8):
                words = cells_of(row)
                at = 16 * many - len(words)
                one = machine(row, at=at, pages=[ALL] * many)
                self.assertEqual(one.step(), "", row)
                self.assertEqual(one.place(), 16 * many if row[0] in ("set", "move") else 9, row)
                if row[0] == "call":
                    self.assertEqual(one.boxes()[1], 16 * many)

    def test_at_the_memorys_end(self):
        one = machine(("move", 1, 2), at=31)
        self.assertEqual(one.steps(2), (1, "run"))
        self.assertEqual(one.place(), 32)
        for row in (("set", 1, 9), ("jump", 9), ("branch", 1, 9), ("call", 1, 9)):
            one = machine(row, at=31)
            before = whole(one)
            self.assertEqual(one.step(), "run", row)
            self.assertEqual(whole(one), before)

    def test_the_place_4095(self):
        for row in (("jump", 4095), ("branch", 1, 4095), ("call", 0, 4095), ("back", 3)):
            one = machine(row, boxes=(1, 2, 3, 4095), pages=[ALL] * 8)
            self.assertEqual(one.steps(2), (1, "run"), row)
            self.assertEqual(one.place(), 4095)
        one = machine(pages=[ALL] * 8)
        one.put([0, 0, 0, 0], (False, False), 4095, 0)
        before = whole(one)
        self.assertEqual(one.step(), "run")
        self.assertEqual(whole(one), before)


class NotDone(unittest.TestCase):
    def hindered(self, one, word):
        """A step that has this word and changes nothing."""
        before = whole(one)
        for again in range(2):
            self.assertEqual(one.step(), word)
            self.assertEqual(whole(one), before)
        self.assertEqual(one.steps(5), (0, word))
        self.assertEqual(whole(one), before)

    def one(self, row, pages=(ALL, ALL), boxes=(5, 6, 7, 8), at=0):
        """A machine that told and stored something before it came to this row."""
        made = machine(row, pages=pages, boxes=boxes, at=at)
        made.tell(99)
        made.put(list(boxes), (True, True), at, 3)
        return made

    def test_run(self):
        for row in (("stop",), ("set", 0, 9), ("add", 0, 1), ("load", 0, 1, 0), ("store", 0, 1, 0), ("out", 0)):
            self.hindered(self.one(row, pages=(NO_RUN, ALL)), "run")
        self.hindered(self.one(("out", 0), pages=((False, False, False),)), "run")

    def test_run_of_a_cell_that_is_not_there(self):
        for place in (32, 33, 128, 4094, 4095):
            one = self.one(("out", 0))
            one.put([1, 2, 3, 4], (True, False), place, 0)
            self.hindered(one, "run")

    def test_run_of_the_second_cell(self):
        for row in (("set", 1, 9), ("jump", 9), ("branch", 0, 9), ("branch", 1, 9), ("call", 1, 9)):
            self.hindered(self.one(row, pages=(ALL, NO_RUN), at=15), "run")
            self.hindered(self.one(row, pages=(ALL, ALL), at=31), "run")
            self.assertEqual(self.one(row, pages=(ALL, ALL), at=15).step(), "")

    def test_a_row_of_one_cell_asks_nothing_of_the_next(self):
        self.assertEqual(self.one(("out", 1), pages=(ALL, NO_RUN), at=15).step(), "")

    def test_only_the_right_to_run_is_asked_for_running(self):
        self.assertEqual(self.one(("set", 0, 9), pages=((False, False, True),)).step(), "")

    def test_row(self):
        for word in (1, 15, 255, 257, 2817, 3076, 4095):
            one = self.one(("out", 0))
            one.poke(0, word)
            self.hindered(one, "row")

    def test_no_row_at_the_last_cell(self):
        one = self.one(("out", 0), at=31)
        one.poke(31, 257)
        self.hindered(one, "row")

    def test_stop(self):
        for at in (0, 15, 31):
            self.hindered(self.one(("stop",), at=at), "stop")

    def test_read(self):
        for y, m in ((16, 0), (16, 15), (31, 0), (10, 6)):
            self.hindered(self.one(("load", 0, 1, m), pages=(ALL, NO_READ), boxes=(5, y, 7, 8)), "read")
        for y, m in ((32, 0), (31, 1), (4095, 0), (4080, 15), (2000, 7)):
            self.hindered(self.one(("load", 0, 1, m), boxes=(5, y, 7, 8)), "read")
        self.assertEqual(self.one(("load", 0, 1, 0), pages=(ALL, (True, False, False)), boxes=(5, 16, 7, 8)).step(), "")

    def test_write(self):
        for y, m in ((16, 0), (16, 15), (31, 0), (10, 6)):
            self.hindered(self.one(("store", 0, 1, m), pages=(ALL, NO_WRITE), boxes=(5, y, 7, 8)), "write")
        for y, m in ((32, 0), (31, 1), (4095, 0), (4080, 15), (2000, 7)):
            self.hindered(self.one(("store", 0, 1, m), boxes=(5, y, 7, 8)), "write")
        self.assertEqual(self.one(("store", 0, 1, 0), pages=(ALL, (False, True, False)), boxes=(5, 16, 7, 8)).step(), "")

    def test_of_two_words_the_first(self):
        shut = (False, False, False)
        one = self.one(("out", 0), pages=(NO_RUN, ALL))
        one.poke(0, 4095)
        self.hindered(one, "run")
        self.hindered(self.one(("stop",), pages=(shut, ALL)), "run")
        self.hindered(self.one(("load", 0, 1, 0), pages=(shut, shut), boxes=(5, 16, 7, 8)), "run")
        self.hindered(self.one(("store", 0, 1, 0), pages=(shut, shut), boxes=(5, 16, 7, 8)), "run")
        # A load needs no right to write, a store none to read.
        self.hindered(self.one(("load", 0, 1, 0), pages=(ALL, shut), boxes=(5, 16, 7, 8)), "read")
        self.hindered(self.one(("store", 0, 1, 0), pages=(ALL, shut), boxes=(5, 16, 7, 8)), "write")


class Steps(unittest.TestCase):
    def test_fewer_than_can_be_done(self):
        one = machine(("out", 0), ("out", 1), ("out", 2), boxes=(7, 8, 9, 0))
        self.assertEqual(one.steps(0), (0, ""))
        self.assertEqual(one.done(), 0)
        self.assertEqual(one.steps(2), (2, ""))
        self.assertEqual((one.done(), one.told()), (2, [7, 8]))

    def test_just_as_many_and_more(self):
        one = machine(("out", 0), ("out", 1), ("out", 2), boxes=(7, 8, 9, 0))
        self.assertEqual(one.twin().steps(3), (3, ""))
        self.assertEqual(one.twin().steps(4), (3, "stop"))
        self.assertEqual(one.steps(10 ** 59), (3, "stop"))
        self.assertEqual((one.done(), one.place(), one.told()), (3, 3, [7, 8, 9]))

    def test_each_word_that_can_end_them(self):
        for row, word in ((("jump", 40), "run"), (("jump", 20), "row"), (("stop",), "stop"), (("load", 0, 3, 0), "read"),
                          (("store", 0, 3, 0), "write")):
            one = machine(("out", 0), ("out", 1), row, boxes=(0, 0, 0, 99), rest=1)
            more = 1 if row[0] == "jump" else 0
            self.assertEqual(one.steps(9), (2 + more, word))
            self.assertEqual(one.done(), 2 + more)

    def test_many_steps_of_a_loop(self):
        one = machine(("add", 0, 1), ("jump", 0), boxes=(0, 1, 0, 0))
        self.assertEqual(one.steps(5001), (5001, ""))
        self.assertEqual((one.done(), one.boxes()[0], one.place()), (5001, 2501, 1))


class FromOutside(unittest.TestCase):
    def test_put(self):
        one = machine(("out", 0))
        cells = one.cells()
        one.put([1, 2, 3, 4095], (True, False), 4095, 7)
        self.assertEqual(one.state(), ([1, 2, 3, 4095], (True, False), 4095, cells, [], 7))
        one.put([4, 3, 2, 1], (False, True), 0, 0)
        self.assertEqual(one.state(), ([4, 3, 2, 1], (False, True), 0, cells, [], 7))
        one.put([4, 3, 2, 1], (False, True), 0, 99)
        self.assertEqual(one.step(), "")
        self.assertEqual((one.done(), one.told()), (107, [4]))

    def test_peek_and_poke(self):
        one = machine(pages=((False, False, False), ALL))
        before = one.state()
        for cell, word in ((0, 4095), (15, 1), (16, 2), (31, 0), (0, 7)):
            one.poke(cell, word)
            self.assertEqual(one.peek(cell), word)
        self.assertEqual(one.stored(), [0, 15, 16, 31, 0])
        self.assertEqual([one.cells()[cell] for cell in (0, 1, 15, 16, 31)], [7, 0, 1, 2, 0])
        self.assertEqual(one.state()[:3] + one.state()[4:], before[:3] + before[4:])

    def test_a_poke_and_a_store_are_kept_as_they_come(self):
        one = machine(("store", 0, 1, 0), boxes=(3, 20, 0, 0))
        one.poke(25, 1)
        one.step()
        one.poke(20, 3)
        self.assertEqual(one.stored(), [25, 20, 20])

    def test_tell(self):
        one = machine(("out", 0), boxes=(5, 0, 0, 0))
        one.tell(4095)
        one.step()
        one.tell(0)
        self.assertEqual(one.told(), [4095, 5, 0])
        self.assertEqual(one.done(), 1)

    def test_a_text_of_the_memory_while_it_runs(self):
        one = machine(("store", 0, 1, 0), ("store", 2, 1, 0), boxes=(3, 20, 0, 0))
        text = text_of(one.cells(), [20, 0])
        self.assertEqual(text, ((0, 2576), (20, 0)))
        one.step()
        self.assertFalse(text_stands(one.cells(), text))
        one.step()
        self.assertTrue(text_stands(one.cells(), text))


class Twins(unittest.TestCase):
    def test_alike_in_all(self):
        one = machine(("out", 0), ("store", 0, 1, 0), ("cmp", 0, 1), boxes=(5, 20, 7, 8), pages=(ALL, NO_RUN))
        one.steps(3)
        one.poke(25, 3)
        other = one.twin()
        self.assertIsInstance(other, Machine)
        self.assertEqual(whole(other), whole(one))
        self.assertEqual(other.truths(), (False, True))
        self.assertEqual((other.stored(), other.told(), other.done()), ([20, 25], [5], 3))

    def test_each_goes_on_by_itself(self):
        rows = [("out", 0), ("store", 0, 1, 0), ("cmp", 0, 1), ("set", 3, 9), ("jump", 0)]
        for which in range(2):
            one = machine(*rows, boxes=(5, 20, 7, 8))
            one.steps(4)
            both = (one, one.twin())
            before = whole(one)
            moved = both[which]
            moved.steps(3)
            moved.poke(9, 1)
            moved.tell(6)
            moved.put([1, 1, 1, 1], (True, True), 9, 5)
            self.assertNotEqual(whole(moved), before)
            self.assertEqual(whole(both[1 - which]), before)

    def test_they_do_the_same(self):
        one = machine(("add", 0, 1), ("out", 0), ("store", 0, 0, 9), ("jump", 0), boxes=(0, 7, 0, 0))
        one.steps(5)
        other = one.twin()
        self.assertEqual(one.steps(50), other.steps(50))
        self.assertEqual(whole(one), whole(other))

    def test_a_twin_of_a_twin(self):
        one = machine(("out", 0)).twin().twin()
        self.assertEqual(one.step(), "")
        self.assertEqual(one.told(), [0])


class TheAskersOwn(unittest.TestCase):
    def test_what_is_handed_in_stays_and_is_not_kept(self):
        handed = [[ALL, ALL], memory([("store", 0, 1, 0), ("set", 0, 9)], 2), [1, 20, 3, 4]]
        before = copy.deepcopy(handed)
        one = Machine(handed[0], handed[1], handed[2], 0)
        one.steps(2)
        self.assertEqual(handed, before)
        state = whole(one)
        handed[0][0] = (False, False, False)
        handed[1][0] = 4095
        handed[2][0] = 99
        for part in handed:
            part.append(0)
        self.assertEqual(whole(one), state)

    def test_what_is_put_stays_and_is_not_kept(self):
        one = machine(("set", 0, 9))
        boxes = [1, 2, 3, 4]
        one.put(boxes, (True, False), 0, 0)
        one.step()
        self.assertEqual(boxes, [1, 2, 3, 4])
        boxes[1] = 77
        self.assertEqual(one.boxes(), [9, 2, 3, 4])

    def test_changing_what_was_told_changes_nothing(self):
        one = machine(("out", 0), ("store", 0, 1, 0), boxes=(5, 20, 0, 0))
        one.steps(2)
        before = copy.deepcopy(whole(one))
        for asked in (one.pages, one.cells, one.boxes, one.told, one.stored):
            told = asked()
            told[0] = 4000
            told.append(1)
            self.assertEqual(whole(one), before)
        state = one.state()
        for k in (0, 3, 4):
            state[k].clear()
        self.assertEqual(whole(one), before)

    def test_what_was_told_stays_behind_a_step(self):
        one = machine(("out", 0), ("store", 0, 1, 0), ("sub", 0, 0), boxes=(5, 20, 0, 0))
        for k in range(3):
            told = whole(one)
            parts = (one.cells(), one.boxes(), one.truths(), one.told(), one.stored())
            kept = copy.deepcopy((told, parts))
            self.assertEqual(one.step(), "")
            self.assertEqual((told, parts), kept)
        one.poke(3, 1)
        one.tell(1)
        one.put([0] * 4, (True, True), 1, 1)
        self.assertEqual((told, parts), kept)

    def test_asked_again_the_same(self):
        one = machine(("out", 0), boxes=(5, 20, 0, 0))
        one.step()
        self.assertEqual(whole(one), whole(one))
        self.assertEqual(one.peek(0), one.peek(0))


def plain_row(pages, cells, place):
    """The row at a place, told by trying all rows there are, or the word for none."""
    if not may_run(pages, place):
        return "run"
    found = ROWS.get(cells[place])
    if found is None:
        return "row"
    if found[-1] != "n":
        return found
    return found[:-1] + (cells[place + 1],) if may_run(pages, place + 1) else "run"


def all_rows():
    """Every row by its first word, with "n" for the second one."""
    four = range(4)
    rows = [("stop",)] + [(name, x) for name in ("back", "out") for x in four]
    rows += [(name, x, y) for name in ("move", "add", "sub", "mul", "and", "xor", "cmp") for x in four for y in four]
    rows += [(name, x, y, m) for name in ("load", "store") for x in four for y in four for m in range(16)]
    rows += [(name, x, "n") for name in ("set", "branch", "call") for x in four] + [("jump", "n")]
    return {cells_of(row[:-1] + (0,) if row[-1] == "n" else row)[0]: row for row in rows}


ROWS = all_rows()


def plain_step(pages, cells, boxes, truths, place, told):
    """The next truths and place, or a word; cells, boxes and told are changed. Told apart from the program."""
    row = plain_row(pages, cells, place)
    if isinstance(row, str):
        return row
    name, x, y = (row + (0, 0))[:3]
    to = (place + len(cells_of(row))) % 4096
    if name == "stop":
        return "stop"
    if name in ("load", "store"):
        cell = (boxes[y] + row[3]) % 4096
        if cell >= len(cells) or not pages[cell // 16][0 if name == "load" else 1]:
            return "read" if name == "load" else "write"
        if name == "load":
            boxes[x] = cells[cell]
        else:
            cells[cell] = boxes[x]
    elif name in ("add", "sub", "mul", "and", "xor", "cmp"):
        result, less = reckoned(name, boxes[x], boxes[y])
        truths = (result == 0, less)
        if name != "cmp":
            boxes[x] = result
    elif name == "set":
        boxes[x] = y
    elif name == "move":
        boxes[x] = boxes[y]
    elif name == "out":
        told.append(boxes[x])
    elif name == "back":
        to = boxes[x]
    elif name == "jump":
        to = x
    elif name == "call":
        boxes[x] = to
        to = y
    elif name == "branch" and (truths[0], not truths[0], truths[1], not truths[1])[x]:
        to = y
    return (truths, to)


class ManyPrograms(unittest.TestCase):
    def test_beside_a_plain_one(self):
        chance = random.Random(5)
        firsts = sorted(ROWS)
        ends = set()
        for number in range(300):
            many = chance.randint(1, 8)
            pages = [tuple(chance.random() < 0.85 for right in range(3)) for page in range(many)]
            cells = [chance.choice((chance.choice(firsts), chance.randint(0, 16 * many))) for k in range(16 * many)]
            boxes = [chance.choice((chance.randint(0, 16 * many), chance.randint(0, 4095))) for k in range(4)]
            place = chance.randint(0, 16 * many)
            one = Machine(pages, cells, boxes, place)
            truths, told = (False, False), []
            for done in range(60):
                went = plain_step(pages, cells, boxes, truths, place, told)
                self.assertEqual(one.step(), went if isinstance(went, str) else "")
                if isinstance(went, str):
                    ends.add(went)
                    break
                truths, place = went
                self.assertEqual(one.state(), (boxes, truths, place, cells, told, done + 1))
        self.assertEqual(ends, {"run", "row", "stop", "read", "write"})


if __name__ == "__main__":
    unittest.main()
