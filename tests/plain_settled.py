"""Plain ways to tell which entries are settled: by walks forward."""

from tests.helpers import plain_after


def common(one, other):
    """With how many alike entries two logs begin."""
    many = 0
    while many < min(len(one), len(other)) and one[many] == other[many]:
        many += 1
    return many


def plain_settled(program, place, log, longest):
    """How many first entries stay in all states that are met while logs are no longer; and whether these are all."""
    seen, waiting, many, is_all = {(place, log)}, [(place, log)], len(log), True
    while waiting:
        state = waiting.pop()
        many = min(many, common(state[1], log))
        for other in plain_after(program, *state).values():
            if len(other[1]) > longest:
                is_all = False
            elif other not in seen:
                seen.add(other)
                waiting.append(other)
    return many, is_all
