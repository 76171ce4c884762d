"""Checks of plain values that several files need."""


def is_integer(thing):
    """Whether any value is an integer; a bool is none."""
    return isinstance(thing, int) and not isinstance(thing, bool)


def is_ascending(things):
    """Whether strings, or integers, are sorted and without duplicates."""
    return all([things[k] < things[k + 1] for k in range(len(things) - 1)])
