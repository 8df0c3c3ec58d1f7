"""Terms: words told by what stood at a start, as sums of numbered atoms."""

NOUGHT = (0, ())
ALL_BITS = (4095, ())


def number_term(n):
    """The term of a number."""
    return (n % 4096, ())


def is_number(t):
    """Whether a term is a number."""
    return len(t[1]) == 0


def term_of(number, counted):
    """The term of a number and of a dict of how many of each atom there are."""
    parts = [(atom, counted[atom] % 4096) for atom in sorted(counted) if counted[atom] % 4096 != 0]
    return (number % 4096, tuple(parts))


def plus(t, u):
    """The sum of two terms."""
    counted = dict(t[1])
    for atom, many in u[1]:
        counted[atom] = counted.get(atom, 0) + many
    return term_of(t[0] + u[0], counted)


def so_many(t, n):
    """So many times a term."""
    counted = dict([(atom, many * n) for atom, many in t[1]])
    return term_of(t[0] * n, counted)


def minus(t, u):
    """The difference of two terms."""
    return plus(t, so_many(u, 4095))


def added_up(t, words):
    """The word of a term, by a list of its atoms' words."""
    return (t[0] + sum([many * words[atom] for atom, many in t[1]])) % 4096


def atom_worth(atom, words, boxes, truths, reads):
    """The word of an atom, by the words of those numbered ahead of it."""
    kind = atom[0]
    if kind == "box":
        return boxes[atom[1]]
    if kind == "truth":
        return 1 if truths[atom[1]] else 0
    one = added_up(atom[1], words)
    if kind == "cell":
        return reads.get((one, atom[2]), 0)
    two = added_up(atom[2], words)
    if kind == "and":
        return one & two
    if kind == "xor":
        return one ^ two
    return one * two % 4096


class Table:
    """Atoms, numbered from 0 on as they are first asked."""

    def __init__(self):
        self.atoms = []
        self.numbers = {}

    def many(self):
        """How many atoms there are."""
        return len(self.atoms)

    def atom_term(self, atom):
        """The term of one atom alone."""
        if atom not in self.numbers:
            self.numbers[atom] = len(self.atoms)
            self.atoms.append(atom)
        return (0, ((self.numbers[atom], 1),))

    def atom_of_two(self, kind, t, u):
        """The term of an atom of two terms, in either order the same one."""
        return self.atom_term((kind, min(t, u), max(t, u)))

    def box(self, k):
        """What stood in the box k."""
        return self.atom_term(("box", k))

    def truth(self, k):
        """1 or 0 for the truth k."""
        return self.atom_term(("truth", k))

    def truth_number(self, number):
        """Which truth the atom of this number is, or None."""
        atom = self.atoms[number]
        return atom[1] if atom[0] == "truth" else None

    def cell(self, t, stores):
        """The word of the cell at an address behind so many stores."""
        return self.atom_term(("cell", t, stores))

    def both(self, t, u):
        """The and of two terms."""
        if is_number(t) and is_number(u):
            return number_term(t[0] & u[0])
        if t == u or u == ALL_BITS:
            return t
        if t == ALL_BITS:
            return u
        if NOUGHT in (t, u):
            return NOUGHT
        return self.atom_of_two("and", t, u)

    def unlike(self, t, u):
        """The xor of two terms."""
        if is_number(t) and is_number(u):
            return number_term(t[0] ^ u[0])
        if t == u:
            return NOUGHT
        if u == NOUGHT:
            return t
        if t == NOUGHT:
            return u
        return self.atom_of_two("xor", t, u)

    def product(self, t, u):
        """The product of two terms."""
        if is_number(t):
            return so_many(u, t[0])
        if is_number(u):
            return so_many(t, u[0])
        return self.atom_of_two("mul", t, u)

    def worth(self, t, boxes, truths, reads):
        """The word of a term where these stood at the start; reads are by the address's word and the stores."""
        # An atom's terms hold only atoms numbered ahead of it, so that one walk finds each word once.
        needed = max([atom + 1 for atom, many in t[1]], default=0)
        words = []
        for atom in self.atoms[:needed]:
            words.append(atom_worth(atom, words, boxes, truths, reads))
        return added_up(t, words)
