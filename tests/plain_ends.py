"""Plain ways to tell how runs end: by walks forward of few steps, and by what the states behind the steps tell."""

from logfolds.logsets import LogSet

from tests.helpers import plain_after
from tests.plain_sets import drawn_set, short_nets


def is_ended(program, place, log, goal):
    """Whether a state is an end with a log that is wished for."""
    return place in program.ends and (goal is None or log in goal)


def plain_fewest(program, place, log, goal, many):
    """The fewest steps to an end, if there are no more than so many, or None."""
    level, seen = {(place, log)}, {(place, log)}
    for steps in range(many + 1):
        if any(is_ended(program, *state, goal) for state in level):
            return steps
        level = {other for state in level for other in plain_after(program, *state).values()} - seen
        seen |= level
    return None


def drawn_goal(draw, book):
    """A goal: none, some nets, all nets but some, a machine, all of them."""
    choice = draw.randrange(6)
    if choice == 0:
        return None
    nets = short_nets(book, 2)
    some = LogSet.of(book, *[draw.choice(nets) for _ in range(draw.randrange(4))])
    if choice == 1:
        return some
    if choice == 2:
        return ~some
    if choice == 3:
        return LogSet.of(book, ())
    return drawn_set(draw, book)


def drawn_states(draw, program, many, longest=4):
    """So many states of a program, most of which do not stand; their logs are nets of several lengths."""
    nets = short_nets(program.book, 3 if len(program.book.entries) > 3 else longest)
    return [(draw.randrange(program.places), draw.choice(nets)) for _ in range(many)]
