"""Promises 1.1 and 1.2, and 0.2, 0.3 and 0.4 as far as they touch likewise.rows."""

import itertools
import unittest

from likewise.errors import BadRow
from likewise.rows import cells_from, cells_of, row_in

BOX = range(4)
SMALL = range(16)
SECOND_WORDS = (0, 1, 2, 255, 256, 2048, 4094, 4095)

# The words by hand: each row with its least and its greatest numbers.
WRITTEN = (
    (("stop",), [0]),
    (("set", 0, 0), [256, 0]),
    (("set", 3, 4095), [448, 4095]),
    (("move", 0, 0), [512]),
    (("move", 3, 3), [752]),
    (("add", 0, 0), [768]),
    (("add", 3, 3), [1008]),
    (("sub", 0, 0), [1024]),
    (("sub", 3, 3), [1264]),
    (("mul", 0, 0), [1280]),
    (("mul", 3, 3), [1520]),
    (("and", 0, 0), [1536]),
    (("and", 3, 3), [1776]),
    (("xor", 0, 0), [1792]),
    (("xor", 3, 3), [2032]),
    (("cmp", 0, 0), [2048]),
    (("cmp", 3, 3), [2288]),
    (("load", 0, 0, 0), [2304]),
    (("load", 3, 3, 15), [2559]),
    (("store", 0, 0, 0), [2560]),
    (("store", 3, 3, 15), [2815]),
    (("jump", 0), [2816, 0]),
    (("jump", 4095), [2816, 4095]),
    (("branch", 0, 0), [3072, 0]),
    (("branch", 3, 4095), [3075, 4095]),
    (("call", 0, 0), [3328, 0]),
    (("call", 3, 4095), [3520, 4095]),
    (("back", 0), [3584]),
    (("back", 3), [3776]),
    (("out", 0), [3840]),
    (("out", 3), [4032]),
    # Numbers that differ, so that none is taken for another.
    (("set", 1, 77), [320, 77]),
    (("move", 1, 2), [608]),
    (("sub", 2, 1), [1168]),
    (("load", 1, 2, 3), [2403]),
    (("store", 2, 3, 1), [2737]),
    (("branch", 2, 9), [3074, 9]),
    (("call", 2, 9), [3456, 9]),
)

# Each row's bounds, in the order of the numbers 0 to 15; "n" stands for the second word.
MAKES = (
    ("stop",),
    ("set", BOX, "n"),
    ("move", BOX, BOX),
    ("add", BOX, BOX),
    ("sub", BOX, BOX),
    ("mul", BOX, BOX),
    ("and", BOX, BOX),
    ("xor", BOX, BOX),
    ("cmp", BOX, BOX),
    ("load", BOX, BOX, SMALL),
    ("store", BOX, BOX, SMALL),
    ("jump", "n"),
    ("branch", BOX, "n"),
    ("call", BOX, "n"),
    ("back", BOX),
    ("out", BOX),
)

NO_ROWS = (
    (),
    (1,),
    (None,),
    (0, 1, 2),
    ("halt",),
    ("",),
    ("Stop",),
    ("stop ",),
    ("addn", 0, 0, 0),
    (["stop"],),
    (("stop",),),
    ("stop", 0),
    ("stop", None),
    ("set", 0),
    ("set", 0, 0, 0),
    ("jump",),
    ("jump", 0, 0),
    ("out",),
    ("out", 0, 0),
    ("load", 0, 0),
    ("load", 0, 0, 0, 0),
    ("set", "0", 0),
    ("set", 0, "0"),
    ("move", 0, "y"),
    ("load", 0, 0, "m"),
    ("branch", "zero", 0),
    ("out", None),
    ("out", [0]),
    ("out", (0,)),
    ("out", True),
    ("set", False, 0),
    ("set", 0, True),
    ("load", 0, 0, False),
)


def rows_by_first_word():
    """For each word that begins a row, the row with "n" in the second word's place."""
    found = {}
    for number, make in enumerate(MAKES):
        ranges = [part for part in make[1:] if part != "n"]
        for numbers in itertools.product(*ranges):
            weights = (1,) if make[0] == "branch" else (64, 16, 1)
            first = number * 256 + sum(n * weight for n, weight in zip(numbers, weights))
            behind = ("n",) if "n" in make else ()
            found[first] = (make[0],) + numbers + behind
    return found


def bounds_of(make):
    """The greatest numbers of a row's make."""
    return [4095 if part == "n" else part[-1] for part in make[1:]]


class Written(unittest.TestCase):
    def test_rows_are_written_as_by_hand(self):
        for row, words in WRITTEN:
            with self.subTest(row):
                self.assertEqual(cells_of(row), words)
                self.assertIs(type(cells_of(row)), list)

    def test_rows_are_read_back(self):
        for row, words in WRITTEN:
            with self.subTest(row):
                self.assertEqual(row_in(words[0], words[-1]), row)
                self.assertIs(type(row_in(words[0], words[-1])), tuple)
                self.assertEqual(cells_from(words[0]), len(words))

    def test_all_sixteen_are_there_in_order(self):
        names = [make[0] for make in MAKES]
        self.assertEqual(sorted(set(names)), sorted({row[0] for row, words in WRITTEN}))
        for number, make in enumerate(MAKES):
            with self.subTest(make[0]):
                least = (make[0],) + (0,) * (len(make) - 1)
                self.assertEqual(cells_of(least)[0], number * 256)

    def test_every_row_that_there_is(self):
        for first, row in rows_by_first_word().items():
            if "n" not in row:
                self.assertEqual(cells_of(row), [first])
                continue
            for second in SECOND_WORDS:
                self.assertEqual(cells_of(row[:-1] + (second,)), [first, second])


class EveryWord(unittest.TestCase):
    def setUp(self):
        self.rows = rows_by_first_word()
        self.assertEqual(len(self.rows), 646)

    def test_cells_from(self):
        for first in range(4096):
            row = self.rows.get(first)
            many = 0 if row is None else 2 if "n" in row else 1
            self.assertEqual(cells_from(first), many, first)

    def test_row_in(self):
        for first in range(4096):
            for second in SECOND_WORDS:
                row = self.rows.get(first)
                if row is not None and "n" in row:
                    row = row[:-1] + (second,)
                self.assertEqual(row_in(first, second), row, (first, second))

    def test_words_that_begin_no_row(self):
        for first in (1, 15, 16, 64, 255, 257, 272, 513, 767, 2817, 2880, 3076, 3088, 3136, 3329, 3585, 3841, 4095):
            with self.subTest(first):
                self.assertEqual(cells_from(first), 0)
                self.assertIsNone(row_in(first, 0))

    def test_the_second_word_counts_for_two_cells_alone(self):
        self.assertEqual(row_in(0, 4095), ("stop",))
        self.assertEqual(row_in(608, 4095), ("move", 1, 2))
        self.assertEqual(row_in(2403, 9), ("load", 1, 2, 3))
        self.assertEqual(row_in(2816, 9), ("jump", 9))
        self.assertIsNone(row_in(1, 9))

    def test_numbers_beyond_words_begin_no_row(self):
        for first in (-1, -256, -4096, 4096, 4352, 10 ** 59):
            with self.subTest(first):
                self.assertEqual(cells_from(first), 0)
                self.assertIsNone(row_in(first, 0))


class NoRows(unittest.TestCase):
    def refused(self, row):
        with self.subTest(row), self.assertRaises(BadRow):
            cells_of(row)

    def test_tuples_of_another_form(self):
        for row in NO_ROWS:
            self.refused(row)

    def test_numbers_out_of_their_bounds(self):
        for make in MAKES:
            most = bounds_of(make)
            for k, bound in enumerate(most):
                for number in (-1, -(10 ** 59), bound + 1, bound + 4096, 10 ** 59, 10 ** 60 - 1):
                    self.refused((make[0],) + tuple(most[:k]) + (number,) + tuple(most[k + 1:]))
                    zeros = (0,) * len(most)
                    self.refused((make[0],) + zeros[:k] + (number,) + zeros[k + 1:])

    def test_too_many_and_too_few_numbers(self):
        for make in MAKES:
            self.refused((make[0],) + (0,) * len(make))
            if len(make) > 1:
                self.refused((make[0],) + (0,) * (len(make) - 2))

    def test_a_text_in_a_numbers_place(self):
        for make in MAKES:
            for k in range(len(make) - 1):
                numbers = [0] * (len(make) - 1)
                numbers[k] = "0"
                self.refused((make[0],) + tuple(numbers))

    def test_a_refusal_changes_nothing(self):
        row = ("set", 1, 77)
        before = cells_of(row)
        self.refused(("set", 1, 4096))
        self.assertEqual(cells_of(row), before)


class TheAskersOwn(unittest.TestCase):
    def test_changing_a_told_list_changes_nothing(self):
        told = cells_of(("set", 1, 77))
        told[0] = 9
        told.append(9)
        self.assertEqual(cells_of(("set", 1, 77)), [320, 77])
        self.assertEqual(row_in(320, 77), ("set", 1, 77))

    def test_two_told_lists_are_two(self):
        one = cells_of(("stop",))
        two = cells_of(("stop",))
        one.clear()
        self.assertEqual(two, [0])


if __name__ == "__main__":
    unittest.main()
