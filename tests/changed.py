"""Values with one thing put otherwise, at any depth."""

import random

ODD = (None, True, False, 0, 1, 2, -1, 10 ** 39, "", "a", "b", "stays", "turns", "above", "none", "step", "ways",
       (), ("a",), [], {}, ((),), ("none",), "abc", ["a"])


def spots_of(thing, spot=()):
    """All spots in a value: the indices that lead to each of its parts, and () for the value itself."""
    found = [spot]
    if isinstance(thing, tuple):
        for k, part in enumerate(thing):
            found.extend(spots_of(part, (*spot, k)))
    return found


def part_at(thing, spot):
    """The part of a value at a spot."""
    for k in spot:
        thing = thing[k]
    return thing


def put_at(thing, spot, part):
    """The value with another part at a spot."""
    if not spot:
        return part
    k = spot[0]
    return (*thing[:k], put_at(thing[k], spot[1:], part), *thing[k + 1:])


def changed_part(draw, part):
    """A part otherwise than it was."""
    choices = [lambda: draw.choice(ODD)]
    if isinstance(part, bool) or part is None:
        return draw.choice(ODD)
    if isinstance(part, int):
        choices += [lambda: part + 1, lambda: part - 1, lambda: draw.randrange(12), lambda: part == 1, lambda: str(part)]
    if isinstance(part, tuple):
        choices += [lambda: list(part)] * 2
        if part:
            k, j = draw.randrange(len(part)), draw.randrange(len(part))
            choices += [
                lambda: part[:k] + part[k + 1:], lambda: part[:k] + part[k:k + 1] + part[k:],
                lambda: part[::-1], lambda: (*part, draw.choice(ODD)),
                lambda: tuple(part[j] if at == k else part[k] if at == j else each for at, each in enumerate(part))]
    if isinstance(part, str):
        choices += [lambda: draw.choice("abcdef"), lambda: draw.choice(("stays", "turns", "above", "none", "step", "ways"))]
    return draw.choice(choices)()


def changed(draw, thing):
    """A value with one thing put otherwise: a part changed, or replaced by another part of the value."""
    spots = spots_of(thing)
    # Deep spots are many, so those of few parts are drawn as often.
    deep = draw.choice([len(spot) for spot in spots])
    spot = draw.choice([spot for spot in spots if len(spot) == deep])
    part = part_at(thing, spot)
    if draw.randrange(4) == 0:
        return put_at(thing, spot, part_at(thing, draw.choice(spots)))
    return put_at(thing, spot, changed_part(draw, part))


def all_changed(seed, thing, many):
    """So many values with one thing put otherwise; and some with two."""
    draw = random.Random(seed)
    for number in range(many):
        other = changed(draw, thing)
        yield changed(draw, other) if number % 5 == 4 else other
