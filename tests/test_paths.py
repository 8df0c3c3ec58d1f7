"""Promise 9.2, 7.1, 7.2, 6.5 and 5.5 where pieces are made along guessed paths, and 0.2 and 0.4 as likewise.paths keeps them."""

import copy
import random
import unittest

from byterms import fields
from likewise.counts import Counts
from likewise.errors import TooMany
from likewise.judge import judged
from likewise.machine import Machine
from likewise.maker import Making, plain_piece
from likewise.paths import path_piece, path_places
from likewise.pieces import Piece
from likewise.rows import cells_of, row_in
from likewise.shorter import shortened
from samples import (
    ALL, NO_RUN, compare_ride, compare_rides, memory, random_cells, random_machine, random_pages, text,
)

PAGES = [ALL, ALL]


def noted(*pairs):
    """Counts of steps, each a pair of a place and where it led."""
    counts = Counts()
    for place, to in pairs:
        counts.note(place, to)
    return counts


def led_by_hand(pages, cells, start, most, counts):
    """The places and the piece of a path, by a piece in the making."""
    making, places, word = Making(pages, cells, start), [start], ""
    while making.steps() < most:
        word = making.step()
        if word == "open" and counts.guess(making.place()) is not None:
            word = making.guessed(counts.guess(making.place()))
        if word != "":
            break
        places.append(making.place())
    return places, making.piece()


class Pathing(unittest.TestCase):
    def led(self, expected, rows, counts, most=14, pages=None, at=0):
        """The path from where these rows begin leads so; its piece is right and rides as the machine alone."""
        given = PAGES if pages is None else pages
        cells = memory(rows, len(given), at)
        self.assertEqual(path_places(given, cells, at, most, counts), expected)
        made = path_piece(given, cells, at, most, counts)
        if len(expected) == 1:
            self.assertIsNone(made)
        else:
            self.checked(given, cells, expected, made)
            compare_rides(self, random.Random(most), given, cells, made, 5)
        return made

    def checked(self, pages, cells, places, made):
        """What 7.2 says of the piece of steps that led from place to place."""
        self.assertIsInstance(made, Piece)
        self.assertIsNone(judged(pages, made))
        self.assertEqual(made.start, places[0])
        steps = [row_in(cells[place], cells[(place + 1) % len(cells)]) for place in places[:-1]]
        some = sorted({place + k for place, row in zip(places, steps) for k in range(len(cells_of(row)))})
        self.assertEqual(made.text, tuple((cell, cells[cell]) for cell in some))
        self.assertLessEqual(len(steps), len(made.rows))
        self.assertLessEqual(len(made.rows), 4 * len(steps))
        self.assertEqual(made.ways[-1][0], len(steps))
        self.assertEqual(made.ways[-1][3], (places[-1], ()))
        self.assertEqual(sorted({way[0] for way in made.ways}), list(range(len(steps) + 1)))
        seen = ("load", "store", "out")
        self.assertEqual([row[0] for row in made.rows if row[0] in seen], [row[0] for row in steps if row[0] in seen])
        self.assertIsNone(judged(pages, shortened(pages, made)))


class Steps(Pathing):
    def test_without_open_ones(self):
        rows = [("set", 1, 5), ("jump", 4), ("move", 0, 1), ("out", 0), ("stop",)]
        self.led([0, 2, 4, 5, 6], rows, Counts())
        for most in range(1, 5):
            self.led([0, 2, 4, 5, 6][:most + 1], rows, Counts(), most)

    def test_as_a_plain_piece_where_none_is_open(self):
        rows = [("set", 1, 5), ("add", 1, 0), ("load", 2, 1, 3), ("store", 2, 1, 4), ("out", 2), ("stop",)]
        for most in (1, 3, 14):
            made = path_piece(PAGES, memory(rows), 0, most, Counts())
            self.assertEqual(fields(made), fields(plain_piece(PAGES, memory(rows), 0, most)))

    def test_counts_are_no_matter_where_it_is_known(self):
        rows = [("sub", 0, 0), ("branch", 0, 6), ("out", 0), ("stop",), ("stop",), ("set", 3, 1), ("back", 3), ("stop",)]
        self.led([0, 1, 6, 8, 1], rows, noted((1, 3), (1, 3), (8, 2), (0, 9), (6, 4)), 4)

    def test_a_branch_to_either_place(self):
        rows = [("cmp", 0, 1), ("branch", 2, 6), ("out", 0), ("stop",), ("stop",), ("out", 1), ("stop",)]
        self.led([0, 1, 6, 7], rows, noted((1, 6)))
        self.led([0, 1, 3, 4], rows, noted((1, 3)))
        self.led([0, 1, 6, 7], rows, noted((1, 3), (1, 6), (1, 6)))
        self.led([0, 1, 3, 4], rows, noted((1, 6), (1, 3)))

    def test_a_back_to_any_word(self):
        rows = [("out", 2), ("back", 2), ("out", 1), ("stop",)]
        self.led([0, 1, 2, 3], rows, noted((1, 2)))
        self.led([0, 1, 20], rows, noted((1, 20)))
        self.led([0, 1, 4095], rows, noted((1, 4095)))
        self.led([0, 1, 0, 1, 0], rows, noted((1, 0), (1, 2), (1, 0)), 4)

    def test_several_open_ones(self):
        rows = [("add", 0, 1), ("branch", 1, 0), ("cmp", 2, 3), ("branch", 2, 9), ("stop",), ("stop",), ("stop",), ("back", 1)]
        self.led([0, 1, 3, 4, 9, 0, 1, 3], rows, noted((1, 3), (4, 9), (9, 0)), 7)
        self.led([0, 1, 0, 1, 0, 1], rows, noted((1, 0), (1, 0), (1, 3)), 5)

    def test_a_loop_fourteen_times(self):
        self.led([0, 1] * 7 + [0], [("add", 0, 1), ("branch", 1, 0)], noted((1, 0)))
        self.led([0] * 15, [("branch", 1, 0)], noted((0, 0)))
        self.led([5] * 15, [("back", 1)], noted((5, 5)), at=5)


class Ends(Pathing):
    def test_what_can_not_be_made(self):
        for last, pages, at in (
            (("stop",), PAGES, 2), (("move", 0, 0), [ALL, NO_RUN], 12), (("set", 0, 0), [ALL, NO_RUN], 11), (("set", 0, 0), [ALL], 11),
        ):
            rows = [("move", 0, 1), ("branch", 0, 30), ("out", 1), last]
            with self.subTest((last, at)):
                self.led([at, at + 1, at + 3, at + 4], rows, noted((at + 1, at + 3)), 14, pages, at)
        self.assertEqual(path_places(PAGES, [4095] * 32, 0, 14, Counts()), [0])
        self.assertEqual(path_places(PAGES, memory([("out", 0)], rest=4095), 0, 14, noted((1, 5))), [0, 1])

    def test_no_guess(self):
        for row in (("branch", 0, 9), ("branch", 3, 9), ("back", 1)):
            self.led([0], [row], Counts())
            self.led([0], [row], noted((1, 9), (9, 0)))
            self.led([0, 1], [("out", 0), row], noted((0, 1), (0, 9)))

    def test_a_guess_to_which_it_can_not_lead(self):
        for to in (0, 1, 3, 8, 10, 4095, 4096, 4098):
            self.led([0], [("branch", 0, 9)], noted((0, to)))
            # Another place to which it could lead is not the guess.
            self.led([0], [("branch", 0, 9)], noted((0, to), (0, to), (0, 9)))
            self.led([0, 9], [("branch", 0, 9)] + [("stop",)] * 9, noted((0, to), (0, 9), (0, 9)))
        self.led([0], [("back", 1)], noted((0, 4096)))

    def test_no_step_at_all(self):
        for rows, at, pages in (([("stop",)], 0, PAGES), ([("move", 0, 0)], 0, [NO_RUN, ALL]), ([("set", 0, 0)], 15, [ALL])):
            self.assertEqual(path_places(pages, memory(rows, 2, at), at, 14, noted((at, at + 1))), [at])
            self.assertIsNone(path_piece(pages, memory(rows, 2, at), at, 14, noted((at, at + 1))))
        for start in (32, 4095):
            self.assertEqual(path_places(PAGES, [512] * 32, start, 14, Counts()), [start])
            self.assertIsNone(path_piece(PAGES, [512] * 32, start, 14, Counts()))

    def test_most_1_and_14(self):
        rows = [("move", 0, 1)] * 20
        for most in range(1, 15):
            self.led(list(range(most + 1)), rows, Counts(), most)
        self.led([0, 9], [("branch", 0, 9)], noted((0, 9)), 1)

    def test_too_many(self):
        for most in (0, 15, -1, 16, 100, 10 ** 59, -(10 ** 59)):
            for rows, counts in (([("move", 0, 1)], Counts()), ([("stop",)], Counts()), ([("branch", 0, 9)], noted((0, 9)))):
                for asked in (path_places, path_piece):
                    with self.assertRaises(TooMany):
                        asked(PAGES, memory(rows), 0, most, counts)
            with self.assertRaises(TooMany):
                path_places([NO_RUN], [0] * 16, 0, most, Counts())


class AtRandom(Pathing):
    def random_counts(self, r, pages, cells):
        """Counts of a machine followed for a while, and of a few steps that never were."""
        counts = Counts()
        for count in range(3):
            one = Machine(pages, cells, [r.randrange(len(cells)) for k in range(4)], r.randrange(len(cells)))
            counts.follow(one, r.randrange(40))
        for count in range(r.randrange(20)):
            place = r.randrange(len(cells))
            counts.note(place, r.choice((r.randrange(len(cells)), place + 2, cells[(place + 1) % len(cells)])))
        return counts

    def test_as_made_by_hand(self):
        whys, longest, opened = set(), 0, 0
        for seed in range(150):
            r = random.Random(seed)
            many = r.randrange(1, 4)
            pages, cells = random_pages(r, many), random_cells(r, many)
            counts = self.random_counts(r, pages, cells)
            start, most = r.randrange(len(cells)), r.choice((14, r.randrange(1, 15)))
            places, made = led_by_hand(pages, cells, start, most, counts)
            self.assertEqual(path_places(pages, cells, start, most, counts), places)
            told = path_piece(pages, cells, start, most, counts)
            self.assertEqual(fields(told), fields(made))
            if told is not None:
                self.checked(pages, cells, places, told)
                whys |= compare_rides(self, r, pages, cells, told, 2)
                whys |= compare_rides(self, r, pages, cells, shortened(pages, told), 2)
                opened += [row[0] for row in told.rows].count("test")
                longest = max(longest, len(places) - 1)
        self.assertEqual(whys, {"break", "end", "read", "write", "text", "test"})
        self.assertEqual(longest, 14)
        self.assertGreater(opened, 40)

    def test_along_what_a_machine_did(self):
        rows = [("add", 0, 1), ("out", 0), ("branch", 1, 0), ("call", 3, 8), ("stop",), ("stop",), ("back", 3)]
        cells = memory(rows)
        one = Machine(PAGES, cells, [4090, 1, 0, 0], 0)
        counts = Counts()
        self.assertEqual(counts.follow(one, 50), (20, "stop"))
        self.assertEqual(path_places(PAGES, cells, 0, 14, counts), [0, 1, 2] * 5)
        made = path_piece(PAGES, cells, 0, 14, counts)
        rider = Machine(PAGES, cells, [4000, 1, 0, 0], 0)
        self.assertEqual(compare_ride(self, rider, made)[1:], (14, "end"))
        rider = Machine(PAGES, cells, [4094, 1, 0, 0], 0)
        self.assertEqual(compare_ride(self, rider, made)[1:], (6, "test"))


class TheAskersOwn(Pathing):
    def test_nothing_handed_in_is_changed_and_the_same_is_told_again(self):
        rows = [("add", 0, 1), ("branch", 1, 0), ("out", 0), ("stop",)]
        pages, cells, counts = list(PAGES), memory(rows), noted((1, 0), (1, 3), (1, 3))
        first = path_places(pages, cells, 0, 14, counts)
        piece = fields(path_piece(pages, cells, 0, 14, counts))
        before = copy.deepcopy(piece)
        self.assertEqual((pages, cells), (PAGES, memory(rows)))
        self.assertEqual([counts.often(1, to) for to in (0, 3)], [1, 2])
        self.assertEqual([counts.often(0, 1), counts.often(3, 4)], [0, 0])
        self.assertEqual(first, [0, 1, 3, 4])
        first.append(99)
        self.assertEqual(path_places(pages, cells, 0, 14, counts), [0, 1, 3, 4])
        self.assertEqual(fields(path_piece(pages, cells, 0, 14, counts)), piece)
        counts.note(1, 0)
        counts.note(1, 0)
        cells[0] = 0
        self.assertEqual(piece, before)
        self.assertEqual(piece[1], text(rows[:3]))


if __name__ == "__main__":
    unittest.main()
