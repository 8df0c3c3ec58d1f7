"""Promise 4.3, and 0.2 as far as it touches likewise.conds."""

import itertools
import random
import unittest

from likewise.conds import cond_worth, less_cond, opposite, same_cond
from likewise.terms import Table, minus, number_term, plus, so_many

EDGES = (0, 1, 2, 2047, 2048, 4094, 4095)
NEITHER = (False, False)


class Same(unittest.TestCase):
    def setUp(self):
        self.table = Table()
        self.one = self.table.box(0)
        self.two = self.table.box(1)

    def test_known_where_the_difference_is_a_number(self):
        for n, m in itertools.product(EDGES, EDGES):
            self.assertEqual(same_cond(self.table, number_term(n), number_term(m)), (n == m, None))
            t, u = plus(self.one, number_term(n)), plus(self.one, number_term(m))
            self.assertEqual(same_cond(self.table, t, u), (n == m, None))
        self.assertEqual(same_cond(self.table, self.one, self.one), (True, None))

    def test_not_known_where_it_has_parts(self):
        for told in (same_cond(self.table, self.one, self.two), same_cond(self.table, self.two, self.one)):
            self.assertEqual(told, (True, ("same", (0, ((0, 1), (1, 4095))))))
        for told in (same_cond(self.table, self.one, (0, ())), same_cond(self.table, (0, ()), self.one)):
            self.assertEqual(told, (True, ("same", (0, ((0, 1),)))))
        for told in (same_cond(self.table, so_many(self.one, 2), (0, ())), same_cond(self.table, self.one, so_many(self.one, 4095))):
            self.assertEqual(told, (True, ("same", (0, ((0, 2),)))))

    def test_the_lesser_of_both_differences(self):
        self.assertEqual(same_cond(self.table, self.one, (1, ())), (True, ("same", (1, ((0, 4095),)))))
        self.assertEqual(same_cond(self.table, (1, ()), self.one), (True, ("same", (1, ((0, 4095),)))))
        self.assertEqual(same_cond(self.table, self.one, (4095, ())), (True, ("same", (1, ((0, 1),)))))
        self.assertEqual(same_cond(self.table, self.one, (2048, ())), (True, ("same", (2048, ((0, 1),)))))
        t = plus(so_many(self.one, 4000), self.two)
        self.assertEqual(same_cond(self.table, t, (0, ())), (True, ("same", (0, ((0, 96), (1, 4095))))))
        self.assertEqual(same_cond(self.table, (5, ()), t), (True, ("same", (5, ((0, 96), (1, 4095))))))
        self.assertEqual(same_cond(self.table, t, (4000, ())), (True, ("same", (96, ((0, 4000), (1, 1))))))

    def test_either_order_is_the_same_one(self):
        terms = [self.one, self.two, plus(self.one, self.two), number_term(7), so_many(self.two, 2048), self.table.truth(0)]
        for t, u in itertools.product(terms, terms):
            told = same_cond(self.table, t, u)
            self.assertEqual(told, same_cond(self.table, u, t))
            if told[1] is not None and told[1][0] == "same":
                self.assertIn(told[1][1], (minus(t, u), minus(u, t)))
                self.assertLessEqual(told[1][1], minus((0, ()), told[1][1]))

    def test_no_atom_is_made(self):
        many = self.table.many()
        same_cond(self.table, self.one, self.two)
        same_cond(self.table, self.one, number_term(3))
        self.assertEqual(self.table.many(), many)


class Truths(unittest.TestCase):
    def setUp(self):
        self.table = Table()
        self.box = self.table.box(0)
        self.truths = [self.table.truth(1), self.table.truth(0)]

    def alike(self, t, n):
        """The cond that a term is a number, asked in both orders and with the same added to both."""
        told = same_cond(self.table, t, number_term(n))
        self.assertEqual(same_cond(self.table, number_term(n), t), told)
        self.assertEqual(same_cond(self.table, plus(t, self.box), plus(self.box, number_term(n))), told)
        return told

    def test_once(self):
        for which, k in ((0, 1), (1, 0)):
            truth = self.truths[which]
            self.assertEqual(self.alike(truth, 0), (False, ("truth", k)))
            self.assertEqual(self.alike(truth, 1), (True, ("truth", k)))
            for n in (2, 3, 2047, 2048, 4094, 4095):
                self.assertEqual(self.alike(truth, n), (False, None))

    def test_4095_times(self):
        for which, k in ((0, 1), (1, 0)):
            less = so_many(self.truths[which], 4095)
            self.assertEqual(self.alike(less, 0), (False, ("truth", k)))
            self.assertEqual(self.alike(less, 4095), (True, ("truth", k)))
            for n in (1, 2, 3, 2047, 2048, 4094):
                self.assertEqual(self.alike(less, n), (False, None))

    def test_every_number(self):
        truth = self.truths[1]
        for n in range(4096):
            once = same_cond(self.table, truth, number_term(n))
            less = same_cond(self.table, so_many(truth, 4095), number_term(n))
            self.assertEqual(once, {0: (False, ("truth", 0)), 1: (True, ("truth", 0))}.get(n, (False, None)))
            self.assertEqual(less, {0: (False, ("truth", 0)), 4095: (True, ("truth", 0))}.get(n, (False, None)))

    def test_another_many_is_not_known(self):
        number = self.truths[1][1][0][0]
        for many, lesser in ((2, 2), (3, 3), (2048, 2048), (4094, 2), (4093, 3)):
            t = so_many(self.truths[1], many)
            self.assertEqual(same_cond(self.table, t, (0, ())), (True, ("same", (0, ((number, lesser),)))))

    def test_two_truths_are_not_known(self):
        told = same_cond(self.table, self.truths[0], self.truths[1])
        self.assertEqual(told, (True, ("same", (0, ((1, 1), (2, 4095))))))

    def test_a_truth_beside_a_box_is_not_known(self):
        told = same_cond(self.table, self.truths[0], self.box)
        self.assertEqual(told, (True, ("same", (0, ((0, 1), (1, 4095))))))

    def test_another_atom_alone_is_not_known(self):
        atoms = [self.box, self.table.cell(self.truths[0], 0), self.table.both(self.truths[0], self.truths[1])]
        for t in atoms:
            self.assertEqual(same_cond(self.table, t, (0, ())), (True, ("same", t)))
            self.assertEqual(same_cond(self.table, t, (5, ()))[1][0], "same")


class Less(unittest.TestCase):
    def setUp(self):
        self.table = Table()
        self.t = self.table.box(0)
        self.u = plus(self.table.box(1), number_term(3))

    def test_known_of_two_numbers(self):
        for n, m in itertools.product(EDGES, EDGES):
            self.assertEqual(less_cond(number_term(n), number_term(m)), (n < m, None))

    def test_known_of_a_term_and_itself(self):
        for t in (self.t, self.u, number_term(7)):
            self.assertEqual(less_cond(t, t), (False, None))

    def test_known_of_any_and_0(self):
        for t in (self.t, self.u, number_term(0), number_term(4095)):
            self.assertEqual(less_cond(t, number_term(0)), (False, None))

    def test_known_of_4095_and_any(self):
        for t in (self.t, self.u, number_term(0), number_term(4095)):
            self.assertEqual(less_cond(number_term(4095), t), (False, None))

    def test_else_not_known(self):
        nearly = plus(self.t, number_term(1))
        full = plus(self.t, number_term(4095))
        for t, u in (
            (self.t, self.u),
            (self.u, self.t),
            (self.t, nearly),
            (nearly, self.t),
            (self.t, full),
            (full, self.t),
            (number_term(0), self.t),
            (self.t, number_term(1)),
            (number_term(4094), self.t),
            (self.t, number_term(4095)),
            (number_term(1), self.table.truth(0)),
            (self.table.truth(0), number_term(2)),
        ):
            self.assertEqual(less_cond(t, u), (True, ("less", t, u)))


class Opposites(unittest.TestCase):
    def test_of_each_core(self):
        t, u = (0, ((0, 1),)), (3, ())
        for core in (None, ("truth", 0), ("truth", 1), ("same", t), ("less", t, u)):
            for yes in (True, False):
                self.assertEqual(opposite((yes, core)), (not yes, core))
                self.assertIs(opposite((yes, core))[0], not yes)
                self.assertEqual(opposite(opposite((yes, core))), (yes, core))


class Worths(unittest.TestCase):
    def setUp(self):
        self.table = Table()
        self.t = self.table.box(0)
        self.u = self.table.cell(self.table.box(1), 2)

    def both_ways(self, core, boxes, truths, reads, worth):
        """The core alone and its opposite."""
        self.assertIs(cond_worth(self.table, (True, core), boxes, truths, reads), worth)
        self.assertIs(cond_worth(self.table, (False, core), boxes, truths, reads), not worth)

    def test_known(self):
        self.both_ways(None, [0] * 4, NEITHER, {}, True)

    def test_truth(self):
        for truths in itertools.product((False, True), repeat=2):
            for k in range(2):
                self.both_ways(("truth", k), [0] * 4, truths, {}, truths[k])

    def test_same(self):
        core = ("same", minus(self.t, self.u))
        for box, word, worth in ((5, 5, True), (5, 6, False), (0, 0, True), (4095, 0, False), (0, 4095, False)):
            self.both_ways(core, [box, 9, 0, 0], NEITHER, {(9, 2): word}, worth)
        self.both_ways(core, [0, 9, 0, 0], NEITHER, {(9, 1): 7}, True)

    def test_less(self):
        core = ("less", self.t, self.u)
        for box, word, worth in ((5, 6, True), (5, 5, False), (6, 5, False), (0, 4095, True), (4095, 0, False)):
            self.both_ways(core, [box, 9, 0, 0], NEITHER, {(9, 2): word}, worth)
        self.both_ways(core, [0, 9, 0, 0], NEITHER, {}, False)

    def test_of_conds_that_were_told(self):
        table = self.table
        terms = [self.t, self.u, table.truth(0), so_many(table.truth(1), 4095), number_term(0), number_term(1)]
        terms += [number_term(4095), plus(self.t, number_term(1)), plus(table.truth(0), number_term(4095))]
        chance = random.Random(11)
        for t, u in itertools.product(terms, terms):
            for again in range(6):
                boxes = [chance.choice(EDGES) for k in range(4)]
                start = (boxes, (chance.random() < 0.5, chance.random() < 0.5), {(boxes[1], 2): chance.choice(EDGES)})
                one, two = table.worth(t, *start), table.worth(u, *start)
                self.assertIs(cond_worth(table, same_cond(table, t, u), *start), one == two)
                self.assertIs(cond_worth(table, less_cond(t, u), *start), one < two)
                self.assertIs(cond_worth(table, opposite(same_cond(table, t, u)), *start), one != two)

    def test_what_is_handed_in_stays(self):
        boxes, reads = [5, 9, 0, 0], {(9, 2): 6}
        cond = less_cond(self.t, self.u)
        for again in range(2):
            self.assertIs(cond_worth(self.table, cond, boxes, NEITHER, reads), True)
        self.assertEqual((boxes, reads), ([5, 9, 0, 0], {(9, 2): 6}))
        self.assertEqual(cond, (True, ("less", self.t, self.u)))
        reads[(9, 2)] = 5
        self.assertIs(cond_worth(self.table, cond, boxes, NEITHER, reads), False)


if __name__ == "__main__":
    unittest.main()
