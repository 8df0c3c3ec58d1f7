"""Promises 5.1 to 5.4 as far as they tell what a piece is, and 0.2 and 0.4 as far as they touch likewise.pieces."""

import copy
import itertools
import unittest

from likewise.errors import BadPiece
from likewise.pieces import Piece, recipe_worth, truth_worth

TEXT = ((3, 4095), (4, 0))
LAST_SPOT = 11
NOUGHT = (0, ())
NO = (False, "known", 0, 0)
WAY = (2, ((0, ((0, 1),)), (1, ((1, 1),)), (0, ((2, 1), (3, 4095))), NOUGHT), (NO, (True, "truth", 4, 0)), (7, ()))

# Each made row's numbers, by their greatest; the least is 0.
MAKES = (
    ("set", 11, 4095),
    ("copy", 11, 11),
    ("cut", 11, 11),
    ("add", 11, 11, 11),
    ("sub", 11, 11, 11),
    ("mul", 11, 11, 11),
    ("and", 11, 11, 11),
    ("xor", 11, 11, 11),
    ("addn", 11, 11, 4095),
    ("load", 11, 11, 4095),
    ("store", 11, 4095, 11),
    ("out", 11),
)

NO_NUMBERS = (-1, True, False, None, "0", (0,), -(10 ** 59), 10 ** 59)


def piece(rows=(), ways=None, start=9, text=TEXT):
    """A piece of these rows, with a good way for each."""
    return Piece(start, text, tuple(rows), tuple(ways) if ways is not None else (WAY,) * (len(rows) + 1))


def instead(things, k, thing):
    """A tuple with another thing in the place k."""
    return things[:k] + (thing,) + things[k + 1:]


class Refusing(unittest.TestCase):
    def refused(self, number, make):
        """What make() makes is refused with this number."""
        with self.assertRaises(BadPiece) as caught:
            make()
        self.assertEqual(caught.exception.row, number)

    def no_row(self, row):
        """A tuple is no made row, wherever it stands."""
        with self.subTest(row):
            self.refused(0, lambda: piece([row]))
            self.refused(2, lambda: piece([("out", 0), ("out", 1), row, ("out", 2)]))

    def no_way(self, way):
        """A thing is no way, wherever it stands, in a test either."""
        with self.subTest(way):
            self.refused(0, lambda: piece(ways=[way]))
            self.refused(1, lambda: piece([("out", 0)], [WAY, way]))
            self.no_row(("test", "same", 0, 1, True, way))


class Good(unittest.TestCase):
    def test_fields(self):
        rows = (("set", 0, 5), ("out", 0))
        ways = (WAY, WAY, instead(WAY, 0, 3))
        made = Piece(9, TEXT, rows, ways)
        self.assertEqual((made.start, made.text, made.rows, made.ways), (9, TEXT, rows, ways))
        for field in (made.text, made.rows, made.ways):
            self.assertIs(type(field), tuple)

    def test_each_made_row_with_its_least_and_greatest(self):
        for make in MAKES:
            least = (make[0],) + (0,) * (len(make) - 1)
            for row in (least, make):
                with self.subTest(row):
                    self.assertEqual(piece([row]).rows, (row,))

    def test_each_number_by_itself(self):
        for make in MAKES:
            for k in range(1, len(make)):
                least = (make[0],) + (0,) * (len(make) - 1)
                self.assertEqual(len(piece([instead(least, k, make[k]), instead(make, k, 0)]).rows), 2)

    def test_tests_of_each_kind(self):
        for kind, s, goes in itertools.product(("same", "less", "truth"), (0, 5, LAST_SPOT), (True, False)):
            for t in (0,) if kind == "truth" else (0, 5, LAST_SPOT):
                row = ("test", kind, s, t, goes, WAY)
                with self.subTest(row[:5]):
                    self.assertEqual(piece([row]).rows, (row,))

    def test_starts_and_texts(self):
        for start in (0, 4095):
            self.assertEqual(piece(start=start).start, start)
        for text in (((0, 0),), ((4095, 4095),), ((0, 4095), (4095, 0)), tuple((k, k) for k in range(60))):
            self.assertEqual(piece(text=text).text, text)

    def test_counts(self):
        self.assertEqual(piece().rows, ())
        self.assertEqual(len(piece([("out", 0)] * 60).rows), 60)
        self.assertEqual(len(piece([("out", 0)] * 60).ways), 61)

    def test_ways(self):
        for done in (0, 1, 98, 99):
            way = instead(WAY, 0, done)
            self.assertEqual(piece(ways=[way]).ways, (way,))
        every = (4095, tuple((spot, 4095) for spot in range(12)))
        for recipe in (NOUGHT, (4095, ()), (0, ((11, 1),)), (0, ((0, 1), (11, 4095))), every):
            for k in range(4):
                self.assertEqual(len(piece(ways=[instead(WAY, 1, instead(WAY[1], k, recipe))]).ways), 1)
            self.assertEqual(len(piece(ways=[instead(WAY, 3, recipe)]).ways), 1)

    def test_truths_recipes(self):
        for yes in (True, False):
            for truth in ((yes, "known", 0, 0), (yes, "truth", 11, 0), (yes, "same", 0, 11), (yes, "less", 11, 11)):
                for k in range(2):
                    way = instead(WAY, 2, instead(WAY[2], k, truth))
                    self.assertEqual(piece(ways=[way]).ways, (way,))


class Heads(Refusing):
    def test_start(self):
        for start in (4096, 10 ** 59) + NO_NUMBERS:
            with self.subTest(start):
                self.refused(-1, lambda: piece(start=start))

    def test_text_of_another_count(self):
        for many in (0, 61, 62, 200):
            self.refused(-1, lambda: piece(text=tuple((k, 0) for k in range(many))))

    def test_text_that_does_not_rise(self):
        for text in (((5, 0), (4, 0)), ((4, 0), (4, 0)), ((4, 0), (4, 1)), ((1, 0), (9, 0), (8, 0)), ((1, 0), (2, 0), (1, 0))):
            with self.subTest(text):
                self.refused(-1, lambda: piece(text=text))

    def test_text_of_no_cells_or_words(self):
        for wrong in (4096,) + NO_NUMBERS:
            for pair in ((wrong, 0), (5, wrong)):
                with self.subTest(pair):
                    self.refused(-1, lambda: piece(text=(pair,)))
        for pair in ((5,), (5, 0, 0), (), 5, [5, 0]):
            with self.subTest(pair):
                self.refused(-1, lambda: piece(text=(pair,)))

    def test_counts_of_rows_and_ways(self):
        self.refused(-1, lambda: piece([("out", 0)] * 61))
        self.refused(-1, lambda: piece([], []))
        for rows, ways in ((0, 2), (1, 1), (1, 3), (2, 2), (2, 0), (60, 60), (60, 62), (61, 61)):
            with self.subTest((rows, ways)):
                self.refused(-1, lambda: piece([("out", 0)] * rows, [WAY] * ways))

    def test_they_come_ahead_of_ways_and_rows(self):
        self.refused(-1, lambda: piece([("none",)], [None, None], start=4096))
        self.refused(-1, lambda: piece([("none",)], [None, None], text=()))
        self.refused(-1, lambda: piece([("none",)], [None, None], text=((4, 0), (4, 0))))
        self.refused(-1, lambda: piece([("none",)], [None]))
        self.refused(-1, lambda: piece([("none",)] * 61))


class Rows(Refusing):
    def test_each_bound_passed_by_one(self):
        for make in MAKES:
            for k in range(1, len(make)):
                self.no_row(instead(make, k, make[k] + 1))
                self.no_row(instead(make, k, -1))

    def test_things_that_are_no_numbers(self):
        for make in MAKES:
            for k in range(1, len(make)):
                for wrong in NO_NUMBERS:
                    self.no_row(instead(make, k, wrong))

    def test_too_many_and_too_few(self):
        for make in MAKES:
            self.no_row(make + (0,))
            self.no_row(make[:-1])
            self.no_row(make[:1])

    def test_other_names(self):
        for row in ((), ("stop",), ("move", 0, 1), ("cmp", 0, 1), ("jump", 5), ("Set", 0, 1), ("", 0), (0, 0, 0),
                    (None, 0, 0), (("set",), 0, 0), (["set"], 0, 0)):
            self.no_row(row)

    def test_other_kinds(self):
        for row in (None, 5, "out", ["out", 0], [], {}):
            self.no_row(row)

    def test_tests(self):
        good = ("test", "same", 3, 4, True, WAY)
        for k, wrong in (
            [(1, kind) for kind in ("known", "Same", "more", "", None, 0, ["same"])]
            + [(2, s) for s in (12,) + NO_NUMBERS]
            + [(3, t) for t in (12,) + NO_NUMBERS]
            + [(4, goes) for goes in (0, 1, None, "yes")]
            + [(5, way) for way in (None, (), WAY[:3], WAY + (0,), list(WAY))]
        ):
            self.no_row(instead(good, k, wrong))
            self.no_row(instead(instead(good, 1, "less"), k, wrong) if k != 1 else instead(good, 1, wrong))
        self.no_row(good[:5])
        self.no_row(good + (0,))
        self.no_row(("test",))

    def test_a_truth_looks_at_one_spot(self):
        for t in (1, 5, 11, 12) + NO_NUMBERS:
            self.no_row(("test", "truth", 3, t, True, WAY))
        for s in (12,) + NO_NUMBERS:
            self.no_row(("test", "truth", s, 0, True, WAY))


class Ways(Refusing):
    def test_done(self):
        for done in (100, 101) + NO_NUMBERS:
            self.no_way(instead(WAY, 0, done))

    def test_counts(self):
        for way in ((), WAY[:3], WAY + (0,), None, 5, list(WAY), "way"):
            self.no_way(way)
        for boxes in ((), WAY[1][:3], WAY[1] + (NOUGHT,), list(WAY[1]), None):
            self.no_way(instead(WAY, 1, boxes))
        for truths in ((), WAY[2][:1], WAY[2] + (NO,), list(WAY[2]), None):
            self.no_way(instead(WAY, 2, truths))

    def test_recipes(self):
        for recipe in (
            (4096, ()), (-1, ()), (True, ()), (None, ()), (0,), (0, (), ()), (), None, 0, [0, ()],
            (0, []), (0, None), (0, 0), (0, [(0, 1)]),
            (0, ((12, 1),)), (0, ((-1, 1),)), (0, ((True, 1),)), (0, (("0", 1),)),
            (0, ((0, 0),)), (0, ((0, 4096),)), (0, ((0, -1),)), (0, ((0, True),)), (0, ((0, "1"),)),
            (0, ((0,),)), (0, ((0, 1, 1),)), (0, (0,)), (0, ([0, 1],)),
            (0, ((1, 1), (0, 1))), (0, ((1, 1), (1, 1))), (0, ((0, 1), (2, 1), (1, 1))), (0, ((0, 1), (1, 0))),
        ):
            for k in range(4):
                self.no_way(instead(WAY, 1, instead(WAY[1], k, recipe)))
            self.no_way(instead(WAY, 3, recipe))

    def test_truths_recipes(self):
        for truth in (
            (1, "known", 0, 0), (0, "known", 0, 0), (None, "known", 0, 0),
            (True, "known", 1, 0), (True, "known", 0, 1), (True, "known", False, 0), (True, "known", 0, False),
            (True, "truth", 4, 1), (True, "truth", 12, 0), (True, "truth", -1, 0), (True, "truth", 4, False),
            (True, "same", 12, 0), (True, "same", 0, 12), (True, "same", -1, 0), (True, "same", 0, -1),
            (True, "less", 12, 0), (True, "less", 0, 12), (True, "less", "0", 0), (True, "less", 0, True),
            (True, "more", 0, 0), (True, "", 0, 0), (True, None, 0, 0), (True, ["same"], 0, 0),
            (True, "known"), (True, "known", 0), (True, "known", 0, 0, 0), (True,), (), True, None,
            [True, "known", 0, 0],
        ):
            for k in range(2):
                self.no_way(instead(WAY, 2, instead(WAY[2], k, truth)))


class TheFirstWrong(Refusing):
    def test_the_first_k(self):
        good, bad = ("out", 0), ("out", 12)
        no_way = instead(WAY, 0, 100)
        for wrong_ways, wrong_rows, k in (
            ([0], [], 0),
            ([], [0], 0),
            ([0], [0], 0),
            ([1], [0], 0),
            ([1], [1], 1),
            ([1], [2], 1),
            ([2], [1], 1),
            ([3], [], 3),
            ([3], [2], 2),
            ([2, 3], [2], 2),
            ([3], [0, 1, 2], 0),
        ):
            rows = [bad if number in wrong_rows else good for number in range(3)]
            ways = [no_way if number in wrong_ways else WAY for number in range(4)]
            with self.subTest((wrong_ways, wrong_rows)):
                self.refused(k, lambda: piece(rows, ways))

    def test_the_last_way(self):
        self.refused(60, lambda: piece([("out", 0)] * 60, [WAY] * 60 + [None]))
        self.refused(0, lambda: piece([], [None]))

    def test_a_refusal_leaves_what_was_handed_in(self):
        text, rows, ways = list(TEXT), [("out", 0), ("out", 12)], [WAY] * 3
        before = copy.deepcopy((text, rows, ways))
        self.refused(1, lambda: Piece(9, text, rows, ways))
        self.assertEqual((text, rows, ways), before)


class TheAskersOwn(unittest.TestCase):
    def test_lists_handed_in_stay_and_are_not_kept(self):
        text, rows, ways = list(TEXT), [("out", 0)], [WAY, WAY]
        made = Piece(9, text, rows, ways)
        self.assertEqual((text, rows, ways), (list(TEXT), [("out", 0)], [WAY, WAY]))
        for handed in (text, rows, ways):
            handed[0] = None
            handed.append(None)
        self.assertEqual((made.start, made.text, made.rows, made.ways), (9, TEXT, (("out", 0),), (WAY, WAY)))
        for field in (made.text, made.rows, made.ways):
            self.assertIs(type(field), tuple)


class Recipes(unittest.TestCase):
    def setUp(self):
        self.spots = [0, 1, 2, 4095, 4096, 4097, 16777215, 16777214, 8191, 100, 5000, 12]

    def test_by_hand(self):
        for recipe, word in (
            ((0, ()), 0),
            ((4095, ()), 4095),
            ((0, ((0, 1),)), 0),
            ((7, ((1, 1),)), 8),
            ((7, ((1, 4095),)), 6),
            ((0, ((1, 4095),)), 4095),
            ((0, ((3, 1),)), 4095),
            ((1, ((3, 1),)), 0),
            ((0, ((4, 1),)), 0),
            ((0, ((5, 1),)), 1),
            ((0, ((5, 3),)), 3),
            ((0, ((6, 1),)), 4095),
            ((0, ((6, 2),)), 4094),
            ((2, ((6, 2),)), 0),
            ((0, ((7, 4095),)), 2),
            ((0, ((8, 1),)), 4095),
            ((0, ((10, 1),)), 904),
            ((1, ((1, 1), (2, 2), (9, 10), (11, 1))), 1018),
        ):
            with self.subTest(recipe):
                self.assertEqual(recipe_worth(recipe, self.spots), word)

    def test_every_spot_by_itself(self):
        for spot in range(12):
            for many in (1, 2, 2048, 4095):
                word = (9 + many * self.spots[spot]) % 4096
                self.assertEqual(recipe_worth((9, ((spot, many),)), self.spots), word)

    def test_all_spots_together(self):
        recipe = (4095, tuple((spot, 4095) for spot in range(12)))
        self.assertEqual(recipe_worth(recipe, self.spots), (4095 - sum(self.spots)) % 4096)
        self.assertEqual(recipe_worth(recipe, [16777215] * 12), 11)

    def test_spots_stay(self):
        before = list(self.spots)
        recipe_worth((1, ((1, 1), (2, 2))), self.spots)
        truth_worth((True, "less", 1, 2), self.spots)
        self.assertEqual(self.spots, before)


class TruthsRecipes(unittest.TestCase):
    def setUp(self):
        self.spots = [0, 1, 2, 4095, 4096, 4097, 16777215, 16777214, 1, 4096, 0, 5]

    def both_ways(self, kind, s, t, worth):
        """The recipe and its opposite."""
        with self.subTest((kind, s, t)):
            self.assertIs(truth_worth((True, kind, s, t), self.spots), worth)
            self.assertIs(truth_worth((False, kind, s, t), self.spots), not worth)

    def test_known(self):
        self.both_ways("known", 0, 0, True)
        self.spots[0] = 7
        self.both_ways("known", 0, 0, True)

    def test_truth(self):
        for s, worth in ((0, False), (1, True), (2, True), (4, True), (6, True), (10, False), (11, True)):
            self.both_ways("truth", s, 0, worth)
        self.spots[0] = 7
        self.both_ways("truth", 10, 0, False)
        self.both_ways("truth", 0, 0, True)

    def test_same(self):
        for s, t, worth in ((0, 0, True), (0, 10, True), (1, 8, True), (4, 9, True), (0, 1, False), (0, 4, False),
                            (1, 5, False), (6, 7, False), (3, 6, False)):
            self.both_ways("same", s, t, worth)
            self.both_ways("same", t, s, worth)

    def test_less(self):
        for s, t, worth in ((0, 1, True), (1, 0, False), (1, 1, False), (1, 8, False), (3, 4, True), (4, 3, False),
                            (2, 5, True), (7, 6, True), (6, 7, False), (6, 0, False)):
            self.both_ways("less", s, t, worth)


if __name__ == "__main__":
    unittest.main()
