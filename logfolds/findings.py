"""Findings: tuples that tell something about a program or about rules, and whether it is so."""

from logfolds.books import are_entries, is_clash, is_rule, known_of, results_of
from logfolds.errors import NoStep
from logfolds.fences import fence_holds
from logfolds.programs import Program
from logfolds.roads import road_holds
from logfolds.standing import growth_holds
from logfolds.steps import is_place


def is_state(program, place, log):
    """Whether three values are a program, one of its places and a net of its book."""
    if not isinstance(program, Program) or not is_place(place, program.places):
        return False
    return program.book.is_net(log)


def stands_holds(parts):
    """Whether the parts are a program, a place, a log, and a road to this state."""
    if len(parts) != 4:
        return False
    program, place, log, road = parts
    return is_state(program, place, log) and road_holds(program, place, log, road)


def fenced_holds(parts):
    """Whether the parts are a program, a place, a log, and a fence that keeps the log out."""
    if len(parts) != 4:
        return False
    program, place, log, fence = parts
    return is_state(program, place, log) and fence_holds(program, place, log, fence)


def grows_holds(parts):
    """Whether the parts are a program and a growth of it."""
    if len(parts) != 2:
        return False
    program, growth = parts
    return isinstance(program, Program) and growth_holds(program, growth)


def are_rules(thing, known):
    """Whether any value is a tuple of rules of known entries, at most one for each pair."""
    if not isinstance(thing, tuple) or not all([is_rule(rule, known) for rule in thing]):
        return False
    return len(results_of(thing)) == len(thing)


def clash_holds(parts):
    """Whether the parts are entries, rules of them, and a clash of these."""
    if len(parts) != 3:
        return False
    entries, rules, row = parts
    if not are_entries(entries) or not are_rules(rules, known_of(entries)):
        return False
    if not isinstance(row, tuple) or len(row) != 3 or not all([isinstance(entry, str) for entry in row]):
        return False
    x, y, z = row
    results = results_of(rules)
    return (x, y) in results and (y, z) in results and is_clash(x, y, z, results)


def cleared_holds(parts):
    """Whether the parts are a program, a place, a log, and a run from this state to an end with the log ()."""
    if len(parts) != 4:
        return False
    program, place, log, run = parts
    if not is_state(program, place, log) or not isinstance(run, tuple):
        return False
    try:
        to, kept = program.follow(*run, place=place, log=log)
    except NoStep:
        return False
    return to in program.ends and kept == ()


CHECKS = {
    "stands": stands_holds,
    "fenced": fenced_holds,
    "grows": grows_holds,
    "clash": clash_holds,
    "cleared": cleared_holds,
}


def finding_holds(thing):
    """Whether any value is a finding that holds."""
    if not isinstance(thing, tuple) or thing == () or not isinstance(thing[0], str):
        return False
    check = CHECKS.get(thing[0])
    return check is not None and check(thing[1:])
