"""Promises 4.1 and 4.2, and 0.2 as far as it touches likewise.terms."""

import copy
import itertools
import random
import unittest

from likewise.terms import Table, minus, number_term, plus, so_many

EDGES = (0, 1, 2, 3, 64, 2047, 2048, 4094, 4095)


def atom(number, many=1, more=0):
    """The term of so many of an atom and a number."""
    return (more, ((number, many),))


class Numbers(unittest.TestCase):
    def test_a_number_has_no_parts(self):
        for n in EDGES:
            self.assertEqual(number_term(n), (n, ()))

    def test_reckoned_by_4096(self):
        for n, m in itertools.product(EDGES, EDGES):
            one, two = number_term(n), number_term(m)
            self.assertEqual(plus(one, two), ((n + m) % 4096, ()))
            self.assertEqual(minus(one, two), ((n - m) % 4096, ()))
            self.assertEqual(so_many(one, m), (n * m % 4096, ()))


class Sums(unittest.TestCase):
    def test_by_hand(self):
        t = (5, ((0, 1), (2, 4095), (3, 2048)))
        u = (4094, ((0, 7), (1, 9), (2, 1)))
        self.assertEqual(plus(t, u), (3, ((0, 8), (1, 9), (3, 2048))))
        self.assertEqual(plus(u, t), (3, ((0, 8), (1, 9), (3, 2048))))
        self.assertEqual(minus(t, u), (7, ((0, 4090), (1, 4087), (2, 4094), (3, 2048))))
        self.assertEqual(minus(u, t), (4089, ((0, 6), (1, 9), (2, 2), (3, 2048))))
        self.assertEqual(so_many(t, 2), (10, ((0, 2), (2, 4094))))
        self.assertEqual(so_many(t, 3), (15, ((0, 3), (2, 4093), (3, 2048))))
        self.assertEqual(so_many(t, 4095), (4091, ((0, 4095), (2, 1), (3, 2048))))

    def test_the_parts_rise_whatever_came_first(self):
        low, high = atom(2), atom(10)
        for t in (plus(low, high), plus(high, low)):
            self.assertEqual(t, (0, ((2, 1), (10, 1))))
        self.assertEqual(minus(high, low), (0, ((2, 4095), (10, 1))))
        self.assertEqual(plus(plus(atom(10), atom(9)), atom(1)), (0, ((1, 1), (9, 1), (10, 1))))

    def test_none_has_many_0(self):
        t = (5, ((0, 1), (2, 4095)))
        self.assertEqual(minus(t, t), (0, ()))
        self.assertEqual(plus(t, so_many(t, 4095)), (0, ()))
        self.assertEqual(so_many(t, 0), (0, ()))
        self.assertEqual(plus(atom(3, 2048), atom(3, 2048)), (0, ()))
        self.assertEqual(so_many(atom(3, 64), 64), (0, ()))
        self.assertEqual(so_many(atom(3, 2048, 1), 2), (2, ()))

    def test_with_nought_and_once(self):
        t = (5, ((0, 1), (2, 4095)))
        for told in (plus(t, (0, ())), plus((0, ()), t), minus(t, (0, ())), so_many(t, 1)):
            self.assertEqual(told, t)

    def test_the_worth_of_sums(self):
        table = Table()
        atoms = [table.box(0), table.box(1), table.truth(0), table.cell(table.box(2), 0)]
        chance = random.Random(3)
        for number in range(200):
            t, u = [
                plus(number_term(chance.choice(EDGES)), plus(so_many(chance.choice(atoms), chance.choice(EDGES)),
                                                             so_many(chance.choice(atoms), chance.choice(EDGES))))
                for which in range(2)
            ]
            n = chance.choice(EDGES)
            boxes = [chance.randint(0, 4095) for k in range(4)]
            start = (boxes, (chance.random() < 0.5, False), {(boxes[2], 0): chance.randint(0, 4095)})
            one, two = table.worth(t, *start), table.worth(u, *start)
            self.assertEqual(table.worth(plus(t, u), *start), (one + two) % 4096)
            self.assertEqual(table.worth(minus(t, u), *start), (one - two) % 4096)
            self.assertEqual(table.worth(so_many(t, n), *start), one * n % 4096)
            for told in (t, u, plus(t, u), minus(t, u), so_many(t, n)):
                numbers = [part[0] for part in told[1]]
                self.assertEqual(numbers, sorted(set(numbers)))
                self.assertTrue(all(1 <= many <= 4095 for k, many in told[1]))


class Atoms(unittest.TestCase):
    def test_numbered_as_they_are_first_asked(self):
        table = Table()
        self.assertEqual(table.many(), 0)
        asked = (
            lambda: table.truth(1),
            lambda: table.box(3),
            lambda: table.box(0),
            lambda: table.cell(table.box(0), 0),
            lambda: table.cell(table.box(0), 1),
            lambda: table.cell(number_term(7), 0),
            lambda: table.both(table.box(0), table.box(3)),
            lambda: table.unlike(table.box(0), table.box(3)),
            lambda: table.product(table.box(0), table.box(3)),
            lambda: table.truth(0),
            lambda: table.box(1),
            lambda: table.cell(plus(table.box(0), number_term(1)), 0),
        )
        for number, ask in enumerate(asked):
            self.assertEqual(ask(), (0, ((number, 1),)))
            self.assertEqual(table.many(), number + 1)
        for number, ask in reversed(list(enumerate(asked))):
            self.assertEqual(ask(), (0, ((number, 1),)))
        self.assertEqual(table.many(), len(asked))

    def test_every_box_and_truth_is_one_of_its_own(self):
        table = Table()
        told = [table.box(k) for k in range(4)] + [table.truth(k) for k in range(2)]
        self.assertEqual(told, [(0, ((number, 1),)) for number in range(6)])

    def test_either_order_is_the_same_one(self):
        for name in ("both", "unlike", "product"):
            table = Table()
            terms = [table.box(1), table.box(0), plus(table.box(0), number_term(9)), so_many(table.box(1), 4095)]
            for t, u in itertools.combinations(terms, 2):
                many = table.many()
                told = getattr(table, name)(t, u)
                self.assertEqual(told, (0, ((many, 1),)), name)
                self.assertEqual(getattr(table, name)(u, t), told, name)
                self.assertEqual(getattr(table, name)(t, u), told, name)
                self.assertEqual(table.many(), many + 1)

    def test_with_a_number_in_either_order(self):
        table = Table()
        t = table.box(0)
        for n in (1, 2, 4094):
            self.assertEqual(table.both(t, number_term(n)), table.both(number_term(n), t))
            self.assertEqual(table.unlike(t, number_term(n)), table.unlike(number_term(n), t))
        self.assertEqual(table.many(), 7)
        # The xor with 4095 is an atom too.
        self.assertEqual(table.unlike(t, number_term(4095)), atom(7))
        self.assertEqual(table.unlike(number_term(4095), t), atom(7))

    def test_and_xor_and_product_are_three(self):
        table = Table()
        t, u = table.box(0), table.box(1)
        self.assertEqual([table.both(t, u), table.unlike(t, u), table.product(t, u)], [atom(2), atom(3), atom(4)])

    def test_a_cell_is_told_by_address_and_stores(self):
        table = Table()
        self.assertEqual(table.cell(number_term(5), 0), atom(0))
        self.assertEqual(table.cell(number_term(5), 1), atom(1))
        self.assertEqual(table.cell(number_term(6), 0), atom(2))
        self.assertEqual(table.cell(number_term(5), 0), atom(0))
        self.assertEqual(table.many(), 3)

    def test_two_tables_are_two(self):
        one, two = Table(), Table()
        one.box(0)
        self.assertEqual((one.many(), two.many()), (1, 0))
        self.assertEqual(two.truth(0), atom(0))


class NoAtom(unittest.TestCase):
    def setUp(self):
        self.table = Table()
        self.t = plus(self.table.box(0), plus(so_many(self.table.truth(1), 3), number_term(9)))
        self.many = self.table.many()

    def tearDown(self):
        self.assertEqual(self.table.many(), self.many)

    def test_a_product_with_a_number(self):
        for n in EDGES:
            for told in (self.table.product(self.t, number_term(n)), self.table.product(number_term(n), self.t)):
                self.assertEqual(told, so_many(self.t, n))
            for m in EDGES:
                self.assertEqual(self.table.product(number_term(n), number_term(m)), (n * m % 4096, ()))

    def test_the_and_of_two_numbers(self):
        for n, m in itertools.product(EDGES, EDGES):
            self.assertEqual(self.table.both(number_term(n), number_term(m)), (n & m, ()))

    def test_the_and_with_0_and_with_4095(self):
        nought, every = number_term(0), number_term(4095)
        for told in (self.table.both(self.t, nought), self.table.both(nought, self.t)):
            self.assertEqual(told, (0, ()))
        for told in (self.table.both(self.t, every), self.table.both(every, self.t)):
            self.assertEqual(told, self.t)

    def test_the_xor_of_two_numbers(self):
        for n, m in itertools.product(EDGES, EDGES):
            self.assertEqual(self.table.unlike(number_term(n), number_term(m)), (n ^ m, ()))

    def test_the_xor_with_0(self):
        nought = number_term(0)
        for told in (self.table.unlike(self.t, nought), self.table.unlike(nought, self.t)):
            self.assertEqual(told, self.t)

    def test_of_a_term_with_itself(self):
        self.assertEqual(self.table.both(self.t, self.t), self.t)
        self.assertEqual(self.table.unlike(self.t, self.t), (0, ()))


class AnAtomAfterAll(unittest.TestCase):
    def test_a_term_times_itself(self):
        table = Table()
        self.assertEqual(table.product(table.box(0), table.box(0)), atom(1))

    def test_terms_that_differ_by_a_number(self):
        table = Table()
        t = table.box(0)
        self.assertEqual(table.both(t, plus(t, number_term(1))), atom(1))
        self.assertEqual(table.unlike(t, plus(t, number_term(1))), atom(2))

    def test_0_and_4095_with_parts_are_no_numbers(self):
        table = Table()
        one = table.box(0)
        zeroed = plus(table.box(1), number_term(0))
        full = plus(table.box(1), number_term(4095))
        self.assertEqual(table.both(one, zeroed), atom(2))
        self.assertEqual(table.both(one, full), atom(3))
        self.assertEqual(table.unlike(one, zeroed), atom(4))
        self.assertEqual(table.product(one, full), atom(5))


class Worths(unittest.TestCase):
    def test_of_numbers(self):
        for n in EDGES:
            self.assertEqual(Table().worth(number_term(n), [0] * 4, (False, False), {}), n)

    def test_of_boxes_and_truths(self):
        table = Table()
        boxes = [0, 7, 4094, 4095]
        for k in range(4):
            self.assertEqual(table.worth(table.box(k), boxes, (True, True), {}), boxes[k])
        for truths in itertools.product((False, True), repeat=2):
            for k in range(2):
                told = table.worth(table.truth(k), boxes, truths, {})
                self.assertEqual(told, 1 if truths[k] else 0)
                self.assertIs(type(told), int)

    def test_of_cells(self):
        table = Table()
        reads = {(5, 0): 77, (5, 1): 78, (6, 0): 79, (0, 2): 80}
        for address, stores, word in ((5, 0, 77), (5, 1, 78), (6, 0, 79), (0, 2, 80), (6, 1, 0), (5, 2, 0), (7, 0, 0)):
            t = table.cell(number_term(address), stores)
            self.assertEqual(table.worth(t, [0] * 4, (False, False), reads), word)
            self.assertEqual(table.worth(t, [0] * 4, (False, False), {}), 0)

    def test_of_cells_whose_address_is_reckoned(self):
        table = Table()
        t = table.cell(plus(table.box(1), number_term(9)), 3)
        reads = {(4, 3): 1000, (9, 3): 2000, (20, 3): 3000}
        for box, word in ((4091, 1000), (0, 2000), (11, 3000), (12, 0)):
            self.assertEqual(table.worth(t, [1, box, 2, 3], (False, False), reads), word)

    def test_of_and_xor_and_product(self):
        table = Table()
        t, u = table.box(0), plus(table.box(1), number_term(1))
        for n, m in itertools.product(EDGES, EDGES):
            start = ([n, m, 9, 9], (False, False), {})
            other = (m + 1) % 4096
            self.assertEqual(table.worth(table.both(t, u), *start), n & other)
            self.assertEqual(table.worth(table.unlike(t, u), *start), n ^ other)
            self.assertEqual(table.worth(table.product(t, u), *start), n * other % 4096)

    def test_of_many_and_a_number(self):
        table = Table()
        t = plus(plus(so_many(table.box(0), 4095), so_many(table.truth(0), 3)), number_term(4000))
        self.assertEqual(table.worth(t, [1, 0, 0, 0], (True, False), {}), 4002)
        self.assertEqual(table.worth(t, [1, 0, 0, 0], (False, True), {}), 3999)
        self.assertEqual(table.worth(t, [4001, 0, 0, 0], (False, True), {}), 4095)
        self.assertEqual(table.worth(t, [3000, 0, 0, 0], (True, True), {}), 1003)

    def test_of_nested_ones(self):
        table = Table()
        inner = table.cell(plus(table.box(0), number_term(2)), 0)
        mixed = table.both(inner, table.unlike(table.box(1), number_term(4095)))
        outer = table.cell(plus(mixed, table.truth(1)), 1)
        t = plus(table.product(outer, inner), so_many(mixed, 2))
        boxes, truths = [8, 5, 0, 0], (False, True)
        reads = {(10, 0): 15, (11, 1): 100}
        # The inner cell is 15, the xor 4090, the and 10, the outer cell that at 11 behind one store.
        self.assertEqual(table.worth(mixed, boxes, truths, reads), 10)
        self.assertEqual(table.worth(outer, boxes, truths, reads), 100)
        self.assertEqual(table.worth(t, boxes, truths, reads), 1520)
        self.assertEqual(table.worth(t, boxes, (True, False), reads), 20)
        self.assertEqual(table.worth(t, boxes, truths, {(10, 0): 15}), 20)
        self.assertEqual(table.worth(t, boxes, truths, {(0, 1): 9}), 0)

    def test_of_deeply_nested_ones(self):
        table = Table()
        t, word = table.box(0), 3
        for k in range(600):
            t = plus(table.product(t, t), number_term(1))
            word = (word * word + 1) % 4096
        self.assertEqual(table.worth(t, [3, 0, 0, 0], (False, False), {}), word)

    def test_of_a_term_asked_early(self):
        table = Table()
        t = table.box(2)
        table.product(table.box(0), table.cell(t, 0))
        self.assertEqual(table.worth(t, [0, 0, 9, 0], (False, False), {}), 9)


class TheAskersOwn(unittest.TestCase):
    def test_what_is_handed_in_stays(self):
        table = Table()
        t = plus(table.cell(table.box(0), 0), table.truth(0))
        boxes, reads = [5, 6, 7, 8], {(5, 0): 9}
        before = copy.deepcopy((boxes, reads))
        self.assertEqual(table.worth(t, boxes, (True, False), reads), 10)
        self.assertEqual((boxes, reads), before)
        boxes[0] = 6
        reads[(6, 0)] = 20
        self.assertEqual(table.worth(t, boxes, (True, False), reads), 21)
        reads.clear()
        self.assertEqual(table.worth(t, boxes, (True, False), reads), 1)

    def test_asking_a_worth_makes_no_atom(self):
        table = Table()
        t = table.both(table.box(0), table.box(1))
        table.worth(t, [1, 2, 3, 4], (True, False), {(1, 0): 3})
        self.assertEqual(table.many(), 3)

    def test_asked_again_the_same(self):
        table = Table()
        t = table.both(table.box(0), table.box(1))
        for again in range(2):
            self.assertEqual(table.worth(t, [7, 13, 0, 0], (False, False), {}), 5)
            self.assertEqual(table.both(table.box(0), table.box(1)), t)
            self.assertEqual(plus(t, t), (0, ((2, 2),)))

    def test_all_are_tuples(self):
        table = Table()
        t = table.both(table.box(0), table.box(1))
        for told in (number_term(3), t, plus(t, t), minus(t, table.box(0)), so_many(t, 5), table.cell(t, 0)):
            self.assertIs(type(told), tuple)
            self.assertIs(type(told[1]), tuple)
            self.assertTrue(all(type(part) is tuple for part in told[1]))


if __name__ == "__main__":
    unittest.main()
