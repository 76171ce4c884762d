"""Fences: finite tables that keep a log out of a place, whatever runs do."""

from logfolds.chains import Chains
from logfolds.standing import stands
from logfolds.ways import closed_holds, ways_of


def fence(program, place, log):
    """Any fence that keeps a net out of a place, or None if it stands there."""
    if stands(program, place, log):
        return None
    # The ways of the program are closed, and they have no chain to what does not stand.
    return ways_of(program)


def fence_holds(program, place, log, thing):
    """Whether any value is a fence that keeps a net out of a place."""
    if not closed_holds(program, thing):
        return False
    return place not in Chains(program, thing).places_of(log)
