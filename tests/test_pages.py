"""Promises 2.1 and 2.2, and 0.2, 0.3 and 0.4 as far as they touch likewise.pages."""

import copy
import itertools
import unittest

from likewise.errors import BadPages, BadState
from likewise.pages import check_pages, check_state, may_read, may_run, may_write, text_of, text_stands

ALL_RIGHTS = (True, True, True)
# Eight pages, no two with the same rights.
EIGHT = list(itertools.product((False, True), repeat=3))
NO_WORDS = (-1, 4096, -(10 ** 59), 10 ** 59, 10 ** 60 - 1)
NO_NUMBERS = ("0", None, True, False, [0])


def state(many=2):
    """Good pages, cells, boxes and place."""
    return [[ALL_RIGHTS] * many, list(range(16 * many)), [0, 1, 4094, 4095], 7]


class Pages(unittest.TestCase):
    def test_one_to_eight_are_good(self):
        for many in range(1, 9):
            with self.subTest(many):
                self.assertIsNone(check_pages([ALL_RIGHTS] * many))
                self.assertIsNone(check_pages(EIGHT[:many]))

    def test_another_count_is_refused(self):
        for many in (0, 9, 10, 64):
            with self.subTest(many), self.assertRaises(BadPages):
                check_pages([ALL_RIGHTS] * many)


class States(unittest.TestCase):
    def refused(self, pages, cells, boxes, place, refusal=BadState):
        with self.subTest((len(pages), cells, boxes, place)), self.assertRaises(refusal):
            check_state(pages, cells, boxes, place)

    def test_good_ones(self):
        for many in range(1, 9):
            with self.subTest(many):
                self.assertIsNone(check_state(*state(many)))
        for word in (0, 4095):
            with self.subTest(word):
                self.assertIsNone(check_state([ALL_RIGHTS], [word] * 16, [word] * 4, word))

    def test_the_place_may_be_a_word_without_a_cell(self):
        pages, cells, boxes, place = state(1)
        for place in (15, 16, 17, 4095):
            with self.subTest(place):
                self.assertIsNone(check_state(pages, cells, boxes, place))

    def test_bad_pages(self):
        for many in (0, 9):
            pages, cells, boxes, place = state(many)
            self.refused(pages, cells, boxes, place, BadPages)

    def test_bad_pages_come_first(self):
        for many in (0, 9):
            pages = [ALL_RIGHTS] * many
            self.refused(pages, [4096], [], -1, BadPages)
            self.refused(pages, [], [0] * 4, 0, BadPages)
            self.refused(pages, [0] * 16 * many, [0] * 4, 4096, BadPages)

    def test_another_count_of_cells(self):
        pages, cells, boxes, place = state(2)
        for wrong in ([], cells[:1], cells[:16], cells[:-1], cells + [0], cells + [0] * 16):
            self.refused(pages, wrong, boxes, place)

    def test_cells_that_hold_no_word(self):
        pages, cells, boxes, place = state(2)
        for wrong in NO_WORDS + NO_NUMBERS:
            for k in (0, 15, 16, 31):
                self.refused(pages, cells[:k] + [wrong] + cells[k + 1:], boxes, place)

    def test_another_count_of_boxes(self):
        pages, cells, boxes, place = state(2)
        for wrong in ([], [0], [0] * 3, [0] * 5, [0] * 16):
            self.refused(pages, cells, wrong, place)

    def test_boxes_that_hold_no_word(self):
        pages, cells, boxes, place = state(2)
        for wrong in NO_WORDS + NO_NUMBERS:
            for k in range(4):
                self.refused(pages, cells, boxes[:k] + [wrong] + boxes[k + 1:], place)

    def test_places_that_are_no_word(self):
        pages, cells, boxes, place = state(2)
        for wrong in NO_WORDS + NO_NUMBERS:
            self.refused(pages, cells, boxes, wrong)

    def test_what_is_handed_in_stays(self):
        good = state(2)
        check_state(*good)
        self.assertEqual(good, state(2))
        bad = state(2)[:3] + [4096]
        before = copy.deepcopy(bad)
        self.refused(*bad)
        self.assertEqual(bad, before)
        self.assertIsNone(check_state(*good))


class Rights(unittest.TestCase):
    def test_first_and_last_cell_of_each_page(self):
        for number, rights in enumerate(EIGHT):
            for cell in (16 * number, 16 * number + 15):
                with self.subTest(cell):
                    self.assertIs(may_read(EIGHT, cell), rights[0])
                    self.assertIs(may_write(EIGHT, cell), rights[1])
                    self.assertIs(may_run(EIGHT, cell), rights[2])

    def test_a_cell_that_is_not_there_may_be_nothing(self):
        for many in range(1, 9):
            pages = [ALL_RIGHTS] * many
            for cell in (16 * many, 16 * many + 1, 16 * many + 15, 16 * many + 16, 4080, 4095):
                for may in (may_read, may_write, may_run):
                    with self.subTest((many, cell)):
                        self.assertIs(may(pages, cell), False)
                        self.assertIs(may(pages, 16 * many - 1), True)

    def test_every_word(self):
        for cell in range(4096):
            rights = EIGHT[cell // 16] if cell < 128 else (False, False, False)
            told = (may_read(EIGHT, cell), may_write(EIGHT, cell), may_run(EIGHT, cell))
            self.assertEqual(told, rights, cell)

    def test_numbers_beyond_words(self):
        for cell in NO_WORDS:
            for may in (may_read, may_write, may_run):
                with self.subTest(cell):
                    self.assertIs(may([ALL_RIGHTS], cell), False)

    def test_pages_stay_and_are_not_kept(self):
        pages = [ALL_RIGHTS, (False, False, False)]
        self.assertTrue(may_read(pages, 0))
        check_pages(pages)
        self.assertEqual(pages, [ALL_RIGHTS, (False, False, False)])
        pages[0] = (False, True, False)
        told = (may_read(pages, 0), may_write(pages, 0), may_run(pages, 0))
        self.assertEqual(told, (False, True, False))


class Texts(unittest.TestCase):
    def setUp(self):
        self.cells = [100 + k for k in range(32)]

    def test_cells_in_any_order_and_more_than_once(self):
        text = ((0, 100), (2, 102), (9, 109), (31, 131))
        for some in ([0, 2, 9, 31], [31, 9, 2, 0], [9, 0, 31, 2], [2, 9, 2, 31, 0, 0, 9, 2]):
            with self.subTest(some):
                self.assertEqual(text_of(self.cells, some), text)
                self.assertIs(type(text_of(self.cells, some)), tuple)
                self.assertTrue(all(type(pair) is tuple for pair in text_of(self.cells, some)))

    def test_one_cell_and_all_cells(self):
        self.assertEqual(text_of(self.cells, [5]), ((5, 105),))
        every = tuple((k, 100 + k) for k in range(32))
        self.assertEqual(text_of(self.cells, list(range(31, -1, -1))), every)

    def test_no_cell_at_all(self):
        self.assertEqual(text_of(self.cells, []), ())
        self.assertIs(text_stands(self.cells, ()), True)

    def test_the_text_of_cells_stands(self):
        self.assertIs(text_stands(self.cells, ((0, 100), (31, 131))), True)
        self.assertIs(text_stands(self.cells, text_of(self.cells, [7, 3, 3])), True)

    def test_a_word_changed(self):
        for text in (((0, 101), (31, 131)), ((0, 100), (31, 130)), ((5, 0),), ((0, 4095),)):
            with self.subTest(text):
                self.assertIs(text_stands(self.cells, text), False)
        text = text_of(self.cells, [3, 7])
        self.cells[7] = 4095
        self.assertIs(text_stands(self.cells, text), False)
        self.cells[7] = 107
        self.assertIs(text_stands(self.cells, text), True)

    def test_a_cell_that_is_not_there(self):
        for cell in (32, 33, 64, 4095):
            for word in (0, 100, 131):
                with self.subTest((cell, word)):
                    self.assertIs(text_stands(self.cells, ((cell, word),)), False)
                    self.assertIs(text_stands(self.cells, ((0, 100), (cell, word))), False)

    def test_numbers_beyond_words_are_no_cells(self):
        for cell in NO_WORDS:
            with self.subTest(cell):
                self.assertIs(text_stands(self.cells, ((cell, 131),)), False)

    def test_a_text_may_stand_elsewhere_too(self):
        text = text_of(self.cells, [1, 2])
        other = [0] * 16
        self.assertIs(text_stands(other, text), False)
        other[1] = 101
        other[2] = 102
        self.assertIs(text_stands(other, text), True)

    def test_what_is_handed_in_stays(self):
        some = [9, 2, 9, 0]
        text_of(self.cells, some)
        text_stands(self.cells, ((0, 1),))
        self.assertEqual(some, [9, 2, 9, 0])
        self.assertEqual(self.cells, [100 + k for k in range(32)])

    def test_changing_what_was_handed_in_changes_nothing_told(self):
        some = [2, 0]
        text = text_of(self.cells, some)
        some.append(5)
        self.cells[0] = 0
        self.assertEqual(text, ((0, 100), (2, 102)))
        self.assertEqual(text_of(self.cells, [2, 0]), ((0, 0), (2, 102)))


if __name__ == "__main__":
    unittest.main()
