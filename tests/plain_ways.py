"""Plain ways to tell what the ways of a program are: by the words of point 10, and by short runs upon each base."""

from tests.helpers import results_of


def all_forms(program):
    """All tuples that have the form of a way, ascending."""
    entries, places = program.book.entries, range(program.places)
    results = results_of(program.book.rules)
    found = [("stays", u, p, q) for u in ("", *entries) for p in places for q in places]
    found += [
        ("turns", u, p, w, q) for u in entries for p in places for q in places
        for w in [(), *[(z,) for z in entries if z != u]]
    ]
    found += [
        ("above", u, p, y, q) for u in ("", *entries) for p in places for q in places
        for y in entries if (u, y) not in results
    ]
    return sorted(found)


def put_upon(results, u, p, y, r):
    """The way by which y comes to stand upon u, or folds with it."""
    if (u, y) not in results:
        return "above", u, p, y, r
    result = results[(u, y)]
    return ("stays", u, p, r) if result == (u,) else ("turns", u, p, result, r)


def plain_asked(program, ways):
    """All ways that a closed set with these ways has by one line of point 10."""
    results = results_of(program.book.rules)
    asked = {("stays", u, p, p) for u in ("", *program.book.entries) for p in range(program.places)}
    upon = {}
    for way in ways:
        if way[0] != "above":
            upon.setdefault(way[1:3], []).append(way)
    for way in ways:
        u, p, q = way[1], way[2], way[-1]
        if way[0] == "stays":
            for place, looks, y, r in program.steps:
                if place == q and (not looks or u in looks):
                    asked.add(put_upon(results, u, p, y, r) if y else ("stays", u, p, r))
        if way[0] == "above":
            for other in upon.get((way[3], q), []):
                if other[0] == "stays":
                    asked.add((*way[:4], other[3]))
                elif other[3] == ():
                    asked.add(("stays", u, p, other[4]))
                else:
                    asked.add(put_upon(results, u, p, other[3][0], other[4]))
    return asked


def plain_closure(program, ways=()):
    """The least closed set that has these ways, ascending."""
    found = set(ways)
    while True:
        more = plain_asked(program, found) - found
        if not more:
            return tuple(sorted(found))
        found |= more


def written_upon(results, row, entry):
    """What becomes of a row, its first part being what is beneath, by an entry: it, and to what the beneath turns."""
    row = list(row)
    while True:
        result = results.get((row[-1], entry))
        if result is None:
            return (*row, entry), None
        if len(row) == 1:
            return (row[0],), (None if result == (row[0],) else result)
        row.pop()
        if not result:
            return tuple(row), None
        entry = result[0]


def short_run_ways(program, u, p, highest):
    """The ways upon u from p that are seen in runs that never have more entries above u than this."""
    results = results_of(program.book.rules)
    seen, waiting, found = {(p, (u,))}, [(p, (u,))], set()
    while waiting:
        q, row = waiting.pop()
        if len(row) == 1:
            found.add(("stays", u, p, q))
        if len(row) == 2:
            found.add(("above", u, p, row[1], q))
        for place, looks, entry, to in program.steps:
            if place != q or (looks and row[-1] not in looks):
                continue
            longer, turned = written_upon(results, row, entry) if entry else (row, None)
            if turned is not None:
                found.add(("turns", u, p, turned, to))
            elif (to, longer) not in seen and len(longer) <= highest + 1:
                seen.add((to, longer))
                waiting.append((to, longer))
    return found


def plain_standing(program, longest, begin=None):
    """For each place, the logs up to this length that stand by runs whose logs are no longer.

    The runs begin with (), or from these states.
    """
    results = results_of(program.book.rules)
    begin = [(place, ()) for place in program.starts] if begin is None else begin
    found = {(place, ("", *log)) for place, log in begin}
    waiting = list(found)
    while waiting:
        q, row = waiting.pop()
        for place, looks, entry, to in program.steps:
            if place != q or (looks and row[-1] not in looks):
                continue
            longer = written_upon(results, row, entry)[0] if entry else row
            if (to, longer) not in found and len(longer) <= longest + 1:
                found.add((to, longer))
                waiting.append((to, longer))
    return {place: {row[1:] for to, row in found if to == place} for place in range(program.places)}


def plain_left(program, longest, begin=None):
    """The logs up to this length that are left by runs whose logs are no longer."""
    found = plain_standing(program, longest, begin)
    return {log for place in program.ends for log in found[place]}


def chain_stands(program, ways, place, log):
    """Whether there is a chain of these ways to a state, by the words of point 11."""
    if not log:
        return any(("stays", "", start, place) in ways for start in program.starts)
    places, last = set(program.starts), ""
    for entry in log:
        places = {q for p in places for q in range(program.places) if ("above", last, p, entry, q) in ways}
        last = entry
    return place in places
