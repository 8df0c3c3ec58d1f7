"""Conds: what is known of terms, or would have to be looked at."""

from likewise.terms import ALL_BITS, NOUGHT, is_number, minus


def opposite(cond):
    """The cond that holds just where this one doesn't."""
    yes, core = cond
    return (not yes, core)


def lone_truth(table, t):
    """The number of the truth that a term has alone beside its number, once or 4095 times, or None."""
    if len(t[1]) != 1 or t[1][0][1] not in (1, 4095):
        return None
    return table.truth_number(t[1][0][0])


def truth_cond(k, t):
    """Whether a term is 0 that has the truth k alone beside its number."""
    number = t[0]
    many = t[1][0][1]
    if number == 0:
        return (False, ("truth", k))
    if (number + many) % 4096 == 0:
        return (True, ("truth", k))
    return (False, None)


def same_cond(table, t, u):
    """Whether two terms are alike."""
    gap = minus(t, u)
    if is_number(gap):
        return (gap == NOUGHT, None)
    k = lone_truth(table, gap)
    if k is not None:
        return truth_cond(k, gap)
    return (True, ("same", min(gap, minus(NOUGHT, gap))))


def less_cond(t, u):
    """Whether one term is less than another."""
    if is_number(t) and is_number(u):
        return (t[0] < u[0], None)
    if t == u or u == NOUGHT or t == ALL_BITS:
        return (False, None)
    return (True, ("less", t, u))


def core_holds(table, core, boxes, truths, reads):
    """Whether a core is so where these stood at the start."""
    if core[0] == "truth":
        return truths[core[1]]
    one = table.worth(core[1], boxes, truths, reads)
    if core[0] == "same":
        return one == 0
    return one < table.worth(core[2], boxes, truths, reads)


def cond_worth(table, cond, boxes, truths, reads):
    """Whether a cond is so where these stood at the start."""
    yes, core = cond
    if core is None:
        return yes
    return core_holds(table, core, boxes, truths, reads) == yes
