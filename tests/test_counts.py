"""Promise 9.1, and 0.2 as far as likewise.counts keeps to it: how often steps led from place to place."""

import random
import unittest

from likewise.counts import Counts
from likewise.machine import Machine
from samples import ALL, NO_READ, NO_RUN, NO_WRITE, memory, random_cells, random_pages, whole

PAGES = [ALL, ALL]


def noted(*pairs):
    """Counts of steps, each a pair of a place and where it led."""
    counts = Counts()
    for place, to in pairs:
        counts.note(place, to)
    return counts


def machine(rows, boxes=(0, 0, 0, 0), pages=None, at=0):
    """A machine at rows written one behind the other."""
    return Machine(PAGES if pages is None else pages, memory(rows, 2, at), list(boxes), at)


class Noting(unittest.TestCase):
    def test_nothing_counted(self):
        counts = Counts()
        for place in (0, 1, 4095):
            self.assertIsNone(counts.guess(place))
            self.assertEqual([counts.often(place, to) for to in (0, 1, 4095)], [0, 0, 0])

    def test_each_counts_one(self):
        counts = Counts()
        for many in range(1, 6):
            self.assertIsNone(counts.note(7, 9))
            self.assertEqual(counts.often(7, 9), many)
        self.assertEqual((counts.often(9, 7), counts.often(7, 7), counts.often(7, 8), counts.often(9, 9)), (0, 0, 0, 0))

    def test_places_at_the_edges(self):
        pairs = ((0, 0), (0, 4095), (4095, 0), (4095, 4095), (1, 0), (0, 1))
        counts = noted(*pairs, *pairs)
        self.assertEqual([counts.often(*pair) for pair in pairs], [2] * 6)
        self.assertEqual((counts.guess(0), counts.guess(4095), counts.guess(1)), (0, 0, 0))

    def test_each_has_its_own(self):
        one, two = noted((1, 2)), Counts()
        self.assertEqual((one.often(1, 2), two.often(1, 2), two.guess(1)), (1, 0, None))


class Guessing(unittest.TestCase):
    def test_the_only_one(self):
        counts = noted((3, 20))
        self.assertEqual((counts.guess(3), counts.guess(20)), (20, None))

    def test_most_often(self):
        self.assertEqual(noted((3, 1), (3, 20), (3, 20)).guess(3), 20)
        self.assertEqual(noted((3, 20), (3, 20), (3, 1)).guess(3), 20)
        self.assertEqual(noted((3, 1), (3, 2), (3, 3), (3, 2)).guess(3), 2)

    def test_the_least_of_several(self):
        self.assertEqual(noted((3, 20), (3, 1)).guess(3), 1)
        self.assertEqual(noted((3, 1), (3, 20)).guess(3), 1)
        self.assertEqual(noted((3, 0), (3, 9), (3, 10), (3, 10), (3, 9)).guess(3), 9)
        self.assertEqual(noted((3, 10), (3, 9), (3, 9), (3, 10), (3, 0)).guess(3), 9)
        self.assertEqual(noted((3, 4095), (3, 0)).guess(3), 0)

    def test_other_places_are_no_matter(self):
        self.assertEqual(noted((3, 20), (4, 1), (4, 1), (5, 1), (20, 1)).guess(3), 20)

    def test_as_it_stands_by_now(self):
        counts = Counts()
        guesses = []
        for to in (5, 2, 5, 2, 2, 9, 9, 9, 9):
            counts.note(1, to)
            guesses.append(counts.guess(1))
        self.assertEqual(guesses, [5, 2, 5, 2, 2, 2, 2, 2, 9])

    def test_at_random(self):
        for seed in range(40):
            r = random.Random(seed)
            pairs = [(r.randrange(4), r.randrange(6)) for count in range(r.randrange(40))]
            counts = noted(*pairs)
            for place in range(4):
                led = [to for here, to in pairs if here == place]
                self.assertEqual([counts.often(place, to) for to in range(6)], [led.count(to) for to in range(6)])
                most = max((led.count(to) for to in led), default=0)
                self.assertEqual(counts.guess(place), min((to for to in led if led.count(to) == most), default=None))


class Following(unittest.TestCase):
    def test_a_loop(self):
        counts = Counts()
        one = machine([("add", 0, 1), ("branch", 1, 0), ("out", 0), ("stop",)], (4093, 1, 0, 0))
        self.assertEqual(counts.follow(one, 100), (7, "stop"))
        self.assertEqual((one.place(), one.done(), one.told()), (4, 7, [0]))
        self.assertEqual([counts.often(*pair) for pair in ((0, 1), (1, 0), (1, 3), (3, 4), (4, 5), (4, 4))], [3, 2, 1, 1, 0, 0])
        self.assertEqual([counts.guess(place) for place in range(5)], [1, 0, None, 4, None])

    def test_so_many_at_most(self):
        for most in (0, 1, 2, 3, 50):
            counts, one, alone = Counts(), machine([("jump", 2), ("jump", 0)]), machine([("jump", 2), ("jump", 0)])
            self.assertEqual(counts.follow(one, most), alone.steps(most))
            self.assertEqual(whole(one), whole(alone))
            self.assertEqual((counts.often(0, 2), counts.often(2, 0)), ((most + 1) // 2, most // 2))

    def test_steps_that_can_not_be_done_count_nothing(self):
        for rows, pages, word in (
            ([("stop",)], PAGES, "stop"), ([("load", 0, 0, 0)], [NO_READ, ALL], "read"), ([("store", 0, 0, 0)], [NO_WRITE, ALL], "write"),
            ([("move", 0, 0)], [NO_RUN, ALL], "run"),
        ):
            counts, one = Counts(), machine(rows, pages=pages)
            before = whole(one)
            for count in range(2):
                self.assertEqual(counts.follow(one, 5), (0, word))
            self.assertEqual(whole(one), before)
            self.assertIsNone(counts.guess(0))
        counts, one = Counts(), Machine(PAGES, [4095] * 32, [0] * 4, 3)
        self.assertEqual(counts.follow(one, 5), (0, "row"))
        self.assertIsNone(counts.guess(3))

    def test_it_goes_on_counting(self):
        counts, one = noted((0, 2), (0, 9)), machine([("jump", 2), ("jump", 0)])
        counts.follow(one, 3)
        counts.follow(one, 2)
        counts.follow(machine([("jump", 9)]), 1)
        self.assertEqual([counts.often(*pair) for pair in ((0, 2), (2, 0), (0, 9))], [4, 2, 2])

    def test_a_step_to_its_own_place(self):
        counts = Counts()
        self.assertEqual(counts.follow(machine([("jump", 5)], at=5), 6), (6, ""))
        self.assertEqual((counts.often(5, 5), counts.guess(5)), (6, 5))

    def test_a_step_out_of_the_memory(self):
        counts = Counts()
        self.assertEqual(counts.follow(machine([("jump", 4000)]), 6), (1, "run"))
        self.assertEqual((counts.guess(0), counts.guess(4000)), (4000, None))

    def test_as_steps_at_random(self):
        for seed in range(60):
            r = random.Random(seed)
            many = r.randrange(1, 4)
            pages, cells = random_pages(r, many), random_cells(r, many)
            one = Machine(pages, cells, [r.randrange(16 * many) for k in range(4)], r.randrange(16 * many))
            alone, slow, counts = one.twin(), one.twin(), Counts()
            most = r.randrange(60)
            told = counts.follow(one, most)
            self.assertEqual(told, alone.steps(most))
            self.assertEqual(whole(one), whole(alone))
            led = []
            for count in range(told[0]):
                here = slow.place()
                slow.step()
                led.append((here, slow.place()))
            for pair in led:
                self.assertEqual(counts.often(*pair), led.count(pair))
            self.assertEqual(sum(counts.often(*pair) for pair in set(led)), told[0])


class TheAskersOwn(unittest.TestCase):
    def test_asking_counts_nothing(self):
        counts = noted((1, 2))
        for count in range(3):
            self.assertEqual((counts.often(1, 2), counts.often(1, 5), counts.often(7, 7), counts.guess(1), counts.guess(7)), (1, 0, 0, 2, None))

    def test_a_machine_is_not_kept(self):
        counts, one = Counts(), machine([("jump", 2), ("jump", 0)])
        counts.follow(one, 2)
        one.steps(10)
        self.assertEqual(counts.often(0, 2), 1)

    def test_the_pair(self):
        told = Counts().follow(machine([("stop",)]), 1)
        self.assertEqual((type(told), [type(part) for part in told]), (tuple, [int, str]))


if __name__ == "__main__":
    unittest.main()
