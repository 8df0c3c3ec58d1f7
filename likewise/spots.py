"""The second machine's spots by terms, as a piece's rows are gone through one by one."""

from likewise.conds import less_cond, opposite, same_cond
from likewise.pieces import SPOTS
from likewise.terms import NOUGHT, number_term, plus, so_many
from likewise.walk import result_term, word_at


class Spots:
    """What each spot holds and whether it is sure to be a word; the events and the addresses loaded so far."""

    def __init__(self, table):
        known = [table.box(k) for k in range(4)] + [table.truth(k) for k in range(2)]
        self.table = table
        self.held = known + [NOUGHT] * (SPOTS - len(known))
        self.sure = [True] * SPOTS
        self.late = None
        self.events = ()
        self.loads = ()

    def address(self, row):
        """The address that a load or a store is about."""
        s, n = row[2:] if row[0] == "load" else row[1:3]
        return plus(self.held[s], number_term(n))

    def event(self, row):
        """The event that a store or an out is."""
        if row[0] == "store":
            return ("store", self.address(row), self.held[row[3]])
        return ("out", self.held[row[1]])

    def term_set(self, row):
        """The term that a row sets its spot to that reckons with nothing but spots."""
        name = row[0]
        if name == "set":
            return number_term(row[2])
        one = self.held[row[2]]
        if name in ("copy", "cut"):
            return one
        if name == "addn":
            return plus(one, number_term(row[3]))
        return result_term(self.table, name, one, self.held[row[3]])

    def is_sure_behind(self, row):
        """Whether the spot that such a row sets is sure to be a word."""
        name = row[0]
        if name in ("set", "cut"):
            return True
        if name == "copy":
            return self.sure[row[2]]
        if name == "and":
            return self.sure[row[2]] or self.sure[row[3]]
        return name == "xor" and self.sure[row[2]] and self.sure[row[3]]

    def hold(self, spot, term, sure):
        """Let a spot hold a term."""
        self.held[spot] = term
        self.sure[spot] = sure

    def do(self, row):
        """Go through a row."""
        coming = self.late
        self.late = None
        if row[0] == "load":
            address = self.address(row)
            self.loads = self.loads + (address,)
            self.late = (row[1], word_at(self.table, address, self.events))
        elif row[0] in ("store", "out"):
            self.events = self.events + (self.event(row),)
        elif row[0] != "test":
            self.hold(row[1], self.term_set(row), self.is_sure_behind(row))
        if coming is not None:
            self.hold(coming[0], coming[1], True)

    def recipe_term(self, recipe):
        """The term of a recipe."""
        number, pairs = recipe
        term = number_term(number)
        for spot, many in pairs:
            term = plus(term, so_many(self.held[spot], many))
        return term

    def kind_cond(self, kind, s, t):
        """What a test's kind tells of two spots, or None where one that it looks into is not sure."""
        if not self.sure[s]:
            return None
        if kind == "truth":
            return opposite(same_cond(self.table, self.held[s], NOUGHT))
        if not self.sure[t]:
            return None
        if kind == "same":
            return same_cond(self.table, self.held[s], self.held[t])
        return less_cond(self.held[s], self.held[t])

    def recipe_cond(self, recipe):
        """The cond of a truth's recipe, or None where a spot that it looks into is not sure."""
        yes, kind, s, t = recipe
        if kind == "known":
            return (yes, None)
        cond = self.kind_cond(kind, s, t)
        if cond is None or yes:
            return cond
        return opposite(cond)
