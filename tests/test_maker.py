"""Promises 7.1, 7.2 and 7.3, and 0.2 and 0.4 as far as likewise.maker keeps to them: pieces made step by step."""

import copy
import itertools
import random
import unittest

from likewise.errors import TooMany
from likewise.judge import judged
from likewise.maker import Making, plain_piece, stretch
from likewise.pieces import Piece
from likewise.rows import cells_of, row_in
from likewise.spots import Spots
from likewise.terms import Table
from samples import (
    ALL, NO_READ, NO_RUN, NO_WRITE, compare_ride, compare_rides, memory, open_to, random_machine, random_making, text,
)

PAGES = [ALL, ALL]

# A row of each kind whose step is never open.
PLAIN = [
    ("set", 1, 77), ("move", 1, 2), ("add", 0, 1), ("sub", 0, 1), ("mul", 2, 3), ("and", 2, 3), ("xor", 2, 3), ("cmp", 0, 1),
    ("load", 1, 2, 5), ("store", 1, 2, 5), ("out", 3), ("jump", 20), ("call", 3, 20),
]


def making(rows, pages=None, at=0, many=2, rest=0):
    """A piece in the making at rows written one behind the other."""
    return Making(PAGES if pages is None else pages, memory(rows, many, at, rest), at)


def fields(piece):
    """A piece's fields, or None."""
    return None if piece is None else (piece.start, piece.text, piece.rows, piece.ways)


def shown(one):
    """All that a piece in the making tells."""
    return (one.place(), one.steps(), fields(one.piece()))


class Checking(unittest.TestCase):
    def checked(self, pages, cells, made, steps, opened=()):
        """What 7.2 says of the piece behind these steps, each a place, the row there, and where it led; some were open."""
        piece = made.piece()
        self.assertIsInstance(piece, Piece)
        self.assertIsNone(judged(pages, piece))
        self.assertEqual((made.steps(), made.place()), (len(steps), steps[-1][2]))
        self.assertEqual(piece.start, steps[0][0])
        used = sorted({place + k for place, row, to in steps for k in range(len(cells_of(row)))})
        self.assertEqual(piece.text, tuple((cell, cells[cell]) for cell in used))
        self.assertLessEqual(len(steps), len(piece.rows))
        self.assertLessEqual(len(piece.rows), 4 * len(steps))
        done = [way[0] for way in piece.ways]
        self.assertEqual(done[-1], len(steps))
        self.assertEqual(sorted(set(done)), list(range(len(steps) + 1)))
        for k in range(1, len(steps) + 1):
            self.assertLessEqual(done.index(k) - done.index(k - 1), 4)
        names = ["test" if k in opened else step[1][0] for k, step in enumerate(steps)]
        seen = ("load", "store", "out", "test")
        self.assertEqual([row[0] for row in piece.rows if row[0] in seen], [name for name in names if name in seen])
        self.seen_by_terms(piece, steps)

    def seen_by_terms(self, piece, steps):
        """Loads, stores and outs are the rows' own ones, by y in a sure spot and m."""
        spots = Spots(Table())
        left = [row for place, row, to in steps if row[0] in ("load", "store", "out")]
        for k, row in enumerate(piece.rows):
            if row[0] in ("load", "store", "out"):
                name, numbers = left[0][0], left.pop(0)[1:]
                self.assertEqual(row[0], name)
                # The boxes ahead of the row, by the terms of the way that stands there: an event's step is the next one.
                boxes = [spots.recipe_term(recipe) for recipe in piece.ways[k][1]]
                if name == "out":
                    self.assertEqual(spots.held[row[1]], boxes[numbers[0]])
                else:
                    s, n = row[2:] if name == "load" else row[1:3]
                    self.assertEqual((n, spots.held[s], spots.sure[s]), (numbers[2], boxes[numbers[1]], True))
                if name == "store":
                    self.assertEqual(spots.held[row[3]], boxes[numbers[0]])
            spots.do(row)
        self.assertEqual(left, [])

    def stepped(self, one, cells):
        """Make a step that is not open: a triple of its place, its row and where it led."""
        here = one.place()
        self.assertEqual(one.step(), "")
        return (here, row_in(cells[here], cells[(here + 1) % len(cells)]), one.place())


class Beginnings(Checking):
    def test_without_steps(self):
        for start in (0, 5, 31, 32, 4095):
            one = Making(PAGES, [0] * 32, start)
            self.assertEqual(shown(one), (start, 0, None))

    def test_none_is_made(self):
        for rows, at, pages, word in (
            ([("stop",)], 0, PAGES, "stop"),
            ([("move", 0, 0)], 3, [NO_RUN, ALL], "run"),
            ([("stop",)], 3, [NO_RUN, ALL], "run"),
            ([("set", 0, 0)], 15, [ALL, NO_RUN], "run"),
            ([("set", 0, 0)], 31, PAGES, "run"),
            ([("branch", 0, 0)], 15, [ALL, NO_RUN], "run"),
            ([], 32, PAGES, "run"),
            ([], 4095, PAGES, "run"),
            ([("branch", 0, 0)], 4, PAGES, "open"),
            ([("branch", 3, 0)], 4, PAGES, "open"),
            ([("back", 2)], 4, PAGES, "open"),
        ):
            with self.subTest((rows, at, word)):
                one = Making(pages, memory(rows, 2, at), at)
                for count in range(2):
                    self.assertEqual(one.step(), word)
                    self.assertEqual(shown(one), (at, 0, None))

    def test_no_row(self):
        for word in (1, 255, 256 + 16, 4095, 11 * 256 + 1, 12 * 256 + 4, 15 * 256 + 16):
            one = Making(PAGES, [word] * 32, 3)
            self.assertEqual(one.step(), "row")
            self.assertEqual(shown(one), (3, 0, None))
            self.assertEqual(Making([NO_RUN, ALL], [word] * 32, 3).step(), "run")

    def test_rights_to_read_and_write_are_no_matter(self):
        for pages in ([NO_READ, NO_READ], [NO_WRITE, NO_WRITE]):
            one = making([("load", 1, 2, 5), ("store", 1, 2, 5)], pages)
            self.assertEqual((one.step(), one.step(), one.step()), ("", "", "stop"))


class OneStep(Checking):
    def test_each_kind(self):
        for row in PLAIN:
            with self.subTest(row):
                cells = memory([row])
                one = making([row])
                to = 20 if row[0] in ("jump", "call") else len(cells_of(row))
                self.assertEqual(one.step(), "")
                self.checked(PAGES, cells, one, [(0, row, to)])
                whys = compare_rides(self, random.Random(3), PAGES, cells, one.piece(), 20)
                self.assertIn("end", whys)

    def test_each_box(self):
        for name, x, y in itertools.product(("move", "add", "sub", "mul", "and", "xor", "cmp"), range(4), range(4)):
            with self.subTest((name, x, y)):
                one = making([(name, x, y)])
                self.assertEqual(one.step(), "")
                self.checked(PAGES, memory([(name, x, y)]), one, [(0, (name, x, y), 1)])
                compare_rides(self, random.Random(x + y), PAGES, memory([(name, x, y)]), one.piece(), 3)
        for name, x, y, m in itertools.product(("load", "store"), range(4), range(4), (0, 15)):
            one = making([(name, x, y, m)])
            self.assertEqual(one.step(), "")
            self.checked(PAGES, memory([(name, x, y, m)]), one, [(0, (name, x, y, m), 1)])
            compare_rides(self, random.Random(x + y), PAGES, memory([(name, x, y, m)]), one.piece(), 6)

    def test_known_branches_and_backs(self):
        for kind, to in ((0, 20), (1, 3), (2, 3), (3, 20)):
            rows = [("sub", 1, 1), ("branch", kind, 20)]
            one = making(rows)
            cells = memory(rows)
            steps = [self.stepped(one, cells), self.stepped(one, cells)]
            self.assertEqual(one.place(), to)
            self.checked(PAGES, cells, one, steps)
        rows = [("call", 3, 9), ("stop",), ("stop",), ("stop",), ("stop",), ("stop",), ("stop",), ("stop",), ("back", 3)]
        one = making(rows)
        steps = [self.stepped(one, memory(rows)) for count in range(2)]
        self.assertEqual([to for place, row, to in steps], [9, 2])
        self.checked(PAGES, memory(rows), one, steps)
        self.assertEqual(one.step(), "stop")

    def test_words_that_are_known_by_what_was_stored(self):
        rows = [("set", 1, 20), ("store", 1, 0, 3), ("load", 2, 0, 3), ("back", 2)]
        one = making(rows)
        steps = [self.stepped(one, memory(rows)) for count in range(4)]
        self.assertEqual(one.place(), 20)
        self.checked(PAGES, memory(rows), one, steps)


class Words(Checking):
    def test_full(self):
        rows = [("move", 0, 1)] * 16
        one = making(rows)
        for count in range(14):
            self.assertEqual((one.steps(), one.step()), (count, ""))
        before = shown(one)
        for count in range(2):
            self.assertEqual(one.step(), "full")
            self.assertEqual(one.guessed(14), "full")
        self.assertEqual(shown(one), before)
        self.assertEqual(one.steps(), 14)

    def test_full_comes_first(self):
        for last in (("stop",), ("branch", 0, 0), ("back", 1), None):
            cells = memory([("move", 0, 1)] * 14 + ([last] if last is not None else []), 2, 0, 4095)
            one = Making(PAGES, cells, 0)
            for count in range(14):
                self.assertEqual(one.step(), "")
            self.assertEqual((one.step(), one.guessed(0)), ("full", "full"))
            one = Making(PAGES, cells, 1)
            for count in range(13):
                self.assertEqual(one.step(), "")
            word = "row" if last is None else "stop" if last[0] == "stop" else "open"
            self.assertEqual(one.step(), word)
        one = Making([ALL, NO_RUN], memory([("move", 0, 1)] * 14, 2, 2), 2)
        for count in range(14):
            self.assertEqual(one.step(), "")
        self.assertEqual((one.place(), one.step()), (16, "full"))

    def test_run_comes_ahead_of_open(self):
        one = Making([ALL, NO_RUN], memory([("branch", 0, 0)], 2, 15), 15)
        self.assertEqual((one.step(), one.guessed(0), one.guessed(17)), ("run", "wrong", "wrong"))

    def test_four_rows_fourteen_times(self):
        for name in ("add", "sub", "mul", "xor"):
            cells = [cells_of((name, 1, 2))[0]] * 32
            one = Making(PAGES, cells, 0)
            steps = [self.stepped(one, cells) for count in range(14)]
            self.checked(PAGES, cells, one, steps)
            compare_rides(self, random.Random(1), PAGES, cells, one.piece(), 3)

    def test_two_cells_fourteen_times(self):
        cells = cells_of(("set", 1, 2)) * 16
        one = Making(PAGES, cells, 0)
        steps = [self.stepped(one, cells) for count in range(14)]
        self.assertEqual(len(one.piece().text), 28)
        self.checked(PAGES, cells, one, steps)

    def test_one_place_fourteen_times(self):
        cells = memory([("jump", 0)])
        one = Making(PAGES, cells, 0)
        steps = [self.stepped(one, cells) for count in range(14)]
        self.assertEqual(one.piece().text, text([("jump", 0)]))
        self.checked(PAGES, cells, one, steps)


class Guessing(Checking):
    def test_an_open_branch_to_either_place(self):
        for kind, to in itertools.product(range(4), (2, 20)):
            row = ("branch", kind, 20)
            cells = memory([row])
            one = making([row])
            with self.subTest((kind, to)):
                self.assertEqual(one.step(), "open")
                self.assertEqual(one.guessed(to), "")
                self.checked(PAGES, cells, one, [(0, row, to)], [0])
                piece = one.piece()
                test = [made for made in piece.rows if made[0] == "test"][0]
                self.assertEqual((test[5][0], test[5][3]), (1, (22 - to, ())))
                for truths in itertools.product((False, True), repeat=2):
                    goes = (truths[0], not truths[0], truths[1], not truths[1])[kind]
                    rider = random_machine(random.Random(kind), PAGES, cells, piece)
                    rider.put([1, 2, 3, 4], truths, 0, 0)
                    left = compare_ride(self, rider, piece)
                    self.assertEqual(left[1:], (1, "end" if goes == (to == 20) else "test"))

    def test_places_to_which_it_can_not_lead(self):
        one = making([("branch", 0, 20)])
        for to in (0, 1, 3, 19, 21, 4095, 4096, 4098, 4116, -1):
            self.assertEqual(one.guessed(to), "wrong")
            self.assertEqual(shown(one), (0, 0, None))
        self.assertEqual(one.guessed(20), "")

    def test_a_branch_to_the_place_behind(self):
        cells = memory([("branch", 0, 2), ("move", 0, 1)])
        one = Making(PAGES, cells, 0)
        self.assertEqual((one.guessed(2), one.step()), ("", ""))
        self.checked(PAGES, cells, one, [(0, ("branch", 0, 2), 2), (2, ("move", 0, 1), 3)], [0])
        compare_rides(self, random.Random(2), PAGES, cells, one.piece(), 8)

    def test_an_open_back_to_any_word(self):
        row = ("back", 2)
        cells = memory([row])
        for to in (0, 1, 2, 20, 31, 32, 127, 128, 4000, 4095):
            one = making([row])
            with self.subTest(to):
                self.assertEqual(one.step(), "open")
                self.assertEqual(one.guessed(to), "")
                self.checked(PAGES, cells, one, [(0, row, to)], [0])
                piece = one.piece()
                test = [made for made in piece.rows if made[0] == "test"]
                self.assertEqual([made[5][0] for made in test], [1])
                for box in (to, (to + 1) % 4096, to ^ 2048):
                    rider = random_machine(random.Random(1), PAGES, cells, piece)
                    rider.put([9, 9, box, 9], (True, False), 0, 0)
                    left = compare_ride(self, rider, piece)
                    self.assertEqual(left[1:], (1, "end" if box == to else "test"))
                    self.assertEqual(rider.place(), 0)

    def test_no_word_is_no_place(self):
        one = making([("back", 2)])
        for to in (4096, 5000, -1):
            self.assertEqual(one.guessed(to), "wrong")
            self.assertEqual(shown(one), (0, 0, None))

    def test_nothing_to_guess(self):
        for rows in ([("stop",)], [("move", 0, 0)], [("jump", 1)], [("call", 1, 1)], [("out", 0)]):
            one = making(rows)
            for to in (0, 1, 2):
                self.assertEqual(one.guessed(to), "wrong")
            self.assertEqual(shown(one), (0, 0, None))
        self.assertEqual(Making(PAGES, [4095] * 32, 0).guessed(1), "wrong")
        self.assertEqual(Making([NO_RUN], [0] * 16, 0).guessed(1), "wrong")
        one = making([("sub", 0, 0), ("branch", 0, 20)])
        self.assertEqual((one.step(), one.guessed(20), one.guessed(3)), ("", "wrong", "wrong"))
        self.assertEqual((one.step(), one.place()), ("", 20))

    def test_whatever_was_tested_ahead(self):
        row = ("branch", 0, 0)
        cells = memory([row, ("branch", 0, 9)])
        one = Making(PAGES, cells, 0)
        self.assertEqual((one.guessed(0), one.step()), ("", "open"))
        self.assertEqual((one.guessed(0), one.guessed(2)), ("", ""))
        self.assertEqual((one.step(), one.guessed(9)), ("open", ""))
        self.checked(PAGES, cells, one, [(0, row, 0), (0, row, 0), (0, row, 2), (2, ("branch", 0, 9), 9)], range(4))
        compare_rides(self, random.Random(4), PAGES, cells, one.piece(), 4)
        back = Making(PAGES, memory([("back", 1)]), 0)
        self.assertEqual((back.guessed(0), back.step(), back.guessed(5)), ("", "open", ""))
        self.assertIsNone(judged(PAGES, back.piece()))

    def test_of_what_was_reckoned(self):
        for name, kind, x, y in itertools.product(("add", "sub", "cmp", "mul", "and", "xor"), range(4), (0, 1), (1, 2)):
            rows = [(name, x, y), ("branch", kind, 20)]
            cells = memory(rows)
            known = name not in ("add", "sub", "cmp") and kind > 1 or name in ("sub", "cmp", "xor") and x == y
            for to in (3, 20):
                one = Making(PAGES, cells, 0)
                with self.subTest((rows, to)):
                    self.assertEqual(one.step(), "")
                    if known:
                        self.assertEqual(one.step(), "")
                    else:
                        self.assertEqual((one.step(), one.guessed(to)), ("open", ""))
                        self.checked(PAGES, cells, one, [(0, rows[0], 1), (1, rows[1], to)], [1])
                    whys = compare_rides(self, random.Random(kind), PAGES, cells, one.piece(), 6)
                    self.assertIn("break", whys)

    def test_right_behind_a_store_and_a_load(self):
        for ahead in (("store", 1, 2, 3), ("load", 1, 2, 3), ("out", 1)):
            for behind, to in ((("branch", 0, 20), 20), (("branch", 2, 20), 3), (("back", 1), 20)):
                rows = [ahead, behind]
                cells = memory(rows)
                one = Making(PAGES, cells, 0)
                with self.subTest(rows):
                    self.assertEqual((one.step(), one.step(), one.guessed(to)), ("", "open", ""))
                    self.checked(PAGES, cells, one, [(0, ahead, 1), (1, behind, to)], [1])
                    # So the piece is right even if a test's own way right behind a store led to just behind it alone.
                    names = [row[0] for row in one.piece().rows]
                    self.assertNotEqual(names[names.index("test") - 1], "store")
                    compare_rides(self, random.Random(7), PAGES, cells, one.piece(), 12)

    def test_full_of_open_steps(self):
        cells = memory([("branch", 1, 0)])
        one = Making(PAGES, cells, 0)
        for count in range(14):
            self.assertEqual((one.steps(), one.guessed(0)), (count, ""))
        self.assertEqual((one.guessed(0), one.guessed(7), one.step()), ("full", "full", "full"))
        self.checked(PAGES, cells, one, [(0, ("branch", 1, 0), 0)] * 14, range(14))


class AtRandom(Checking):
    def test_every_piece_so_far(self):
        whys = set()
        longest = 0
        for seed in range(120):
            r = random.Random(seed)
            pages, cells, done = random_making(r)
            one = Making(pages, cells, done.piece().start if done.piece() is not None else 0)
            steps, opened, word = [], [], ""
            while word == "":
                here = one.place()
                word = one.step()
                if word == "open":
                    opened.append(len(steps))
                    word = one.guessed(open_to(r, cells, here))
                if word == "":
                    steps.append((here, row_in(cells[here], cells[(here + 1) % len(cells)]), one.place()))
                    self.checked(pages, cells, one, steps, opened)
            longest = max(longest, len(steps))
            if steps:
                whys |= compare_rides(self, r, pages, cells, one.piece(), 2)
        self.assertEqual(whys, {"break", "end", "read", "write", "text", "test"})
        self.assertEqual(longest, 14)

    def test_the_steps_are_the_machines_own(self):
        ended = 0
        for seed in range(80):
            r = random.Random(seed)
            pages, cells, done = random_making(r)
            if done.piece() is None:
                continue
            alone = random_machine(r, pages, cells, done.piece())
            before = alone.twin()
            one = Making(pages, alone.cells(), alone.place())
            # Led by the machine itself, as long as it stores nothing.
            while alone.step() == "" and alone.stored() == before.stored() and one.steps() < 14:
                word = one.step()
                self.assertEqual(one.guessed(alone.place()) if word == "open" else word, "")
                self.assertEqual(one.place(), alone.place())
            if one.piece() is not None:
                # What is made is then ridden to its end, but for an address that the first machine cuts.
                done, why = compare_ride(self, before, one.piece())[1:]
                self.assertIn((done, why), [(one.steps(), "end")] + [(fewer, "read") for fewer in range(one.steps())])
                ended += why == "end"
        self.assertGreater(ended, 30)


class Stretches(Checking):
    def test_with_most_1_and_14(self):
        rows = [("move", 0, 1)] * 20
        for most in range(1, 15):
            self.assertEqual(stretch(PAGES, memory(rows), 0, most), most)
            piece = plain_piece(PAGES, memory(rows), 0, most)
            self.assertEqual(piece.ways[-1][0], most)
            self.assertEqual(piece.text, text(rows[:most]))
            self.assertIsNone(judged(PAGES, piece))

    def test_what_ends_them(self):
        cells = memory([("stop",)] * 2)
        for last, pages, at in (
            (("stop",), PAGES, 2), (("branch", 0, 5), PAGES, 2), (("back", 1), PAGES, 2), (("set", 1, 1), [ALL, NO_RUN], 12),
            (("move", 1, 1), [ALL, NO_RUN], 13),
        ):
            rows = [("move", 0, 1), ("out", 0), ("add", 0, 1), last]
            cells = memory(rows, 2, at)
            for most, many in ((1, 1), (2, 2), (3, 3), (4, 3), (14, 3)):
                with self.subTest((last, most)):
                    self.assertEqual(stretch(pages, cells, at, most), many)
                    piece = plain_piece(pages, cells, at, most)
                    self.assertEqual((piece.start, piece.text), (at, text(rows[:many], at)))
                    self.assertEqual(piece.ways[-1][0], many)
                    self.assertNotIn("test", [row[0] for row in piece.rows])
        cells = memory([("move", 0, 1)], 2, 0, 4095)
        self.assertEqual(stretch(PAGES, cells, 0, 14), 1)

    def test_none(self):
        for rows, at, pages in (([("stop",)], 0, PAGES), ([("branch", 0, 1)], 0, PAGES), ([("back", 0)], 0, PAGES), ([], 32, PAGES),
                                ([("move", 0, 1)], 0, [NO_RUN, ALL])):
            for most in (1, 14):
                self.assertEqual(stretch(pages, memory(rows), at, most), 0)
                self.assertIsNone(plain_piece(pages, memory(rows), at, most))
        self.assertEqual(stretch(PAGES, [4095] * 32, 0, 3), 0)
        self.assertIsNone(plain_piece(PAGES, [4095] * 32, 0, 3))

    def test_too_many(self):
        for most in (0, 15, -1, 16, 100, 10 ** 59, -(10 ** 59)):
            for rows in ([("move", 0, 1)], [("stop",)]):
                with self.assertRaises(TooMany):
                    stretch(PAGES, memory(rows), 0, most)
                with self.assertRaises(TooMany):
                    plain_piece(PAGES, memory(rows), 0, most)
            with self.assertRaises(TooMany):
                stretch([NO_RUN], [0] * 16, 0, most)

    def test_as_making_makes_them(self):
        for seed in range(40):
            r = random.Random(seed)
            pages, cells, done = random_making(r)
            start = r.randrange(len(cells))
            for most in (1, 2, 5, 14):
                one = Making(pages, cells, start)
                while one.steps() < most and one.step() == "":
                    pass
                self.assertEqual(stretch(pages, cells, start, most), one.steps())
                piece = plain_piece(pages, cells, start, most)
                self.assertEqual(fields(piece), fields(one.piece()))
                if piece is not None:
                    self.assertIsNone(judged(pages, piece))


class TheAskersOwn(Checking):
    def test_lists_handed_in_stay_and_are_not_kept(self):
        rows = [("move", 0, 1), ("branch", 0, 9), ("set", 2, 5)]
        pages, cells = list(PAGES), memory(rows)
        one = Making(pages, cells, 0)
        other = Making(PAGES, memory(rows), 0)
        self.assertEqual((pages, cells), (PAGES, memory(rows)))
        for k in range(32):
            cells[k] = 0
        pages[0] = NO_RUN
        pages.pop()
        for two in (one, other):
            self.assertEqual((two.step(), two.step(), two.guessed(3), two.step()), ("", "open", "", ""))
        self.assertEqual(shown(one), shown(other))

    def test_what_was_told_stays(self):
        one = making([("move", 0, 1), ("branch", 0, 9), ("set", 2, 5)])
        one.step()
        first = one.piece()
        before = copy.deepcopy(fields(first))
        one.guessed(9)
        self.assertEqual(fields(first), before)
        self.assertNotEqual(fields(one.piece()), before)
        for field in fields(one.piece())[1:]:
            self.assertIs(type(field), tuple)

    def test_asked_again(self):
        one = making([("move", 0, 1), ("branch", 0, 9), ("set", 2, 5)])
        one.step()
        self.assertEqual(shown(one), shown(one))
        self.assertEqual((one.step(), one.guessed(5)), ("open", "wrong"))
        self.assertEqual(shown(one), shown(one))
        self.assertEqual(one.steps(), 1)

    def test_stretches_change_nothing(self):
        rows = [("move", 0, 1), ("add", 0, 1), ("store", 1, 0, 0)]
        pages, cells = list(PAGES), memory(rows)
        for count in range(2):
            self.assertEqual(stretch(pages, cells, 0, 14), 3)
            self.assertEqual(fields(plain_piece(pages, cells, 0, 14)), fields(plain_piece(PAGES, memory(rows), 0, 14)))
        self.assertEqual((pages, cells), (PAGES, memory(rows)))


if __name__ == "__main__":
    unittest.main()
