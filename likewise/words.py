"""What counts as a number and as a word."""


def is_below(thing, bound):
    """Whether a thing is a whole number from 0 up to, not with, the bound."""
    # True and False would pass as 1 and 0, but are no numbers.
    return isinstance(thing, int) and not isinstance(thing, bool) and 0 <= thing < bound


def is_word(thing):
    """Whether a thing is a word."""
    return is_below(thing, 4096)
