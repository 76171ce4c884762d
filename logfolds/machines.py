"""Machines: rows as in a table of logs, put together, and made as few as can be."""

# A row that accepts nothing.
GONE = (False, ())

# Which nets of two sets are wanted: those of both, those of the first one alone, those of the second one alone.
IN_BOTH = (True, False, False)
IN_EITHER = (True, True, True)
IN_FIRST_ALONE = (False, True, False)
IN_JUST_ONE = (False, True, True)


def net_rows(book):
    """The rows of a machine that accepts all nets; it has a state for each last entry."""
    entries = book.entries
    rows = []
    for last in ("", *entries):
        moves = [(entry, k + 1) for k, entry in enumerate(entries) if book.result(last, entry) is None]
        rows.append((True, tuple(moves)))
    return rows


def nets_table(book):
    """The table of the set of all nets."""
    return table_of(net_rows(book), book.entries)


def listing_rows(listed):
    """The rows of a machine that accepts just these rows of entries; it has a state for each beginning of one."""
    followers = [{}]
    ins = {}
    for row in listed:
        state = 0
        for entry in row:
            if entry not in followers[state]:
                followers[state][entry] = len(followers)
                followers.append({})
            state = followers[state][entry]
        ins[state] = True
    return [(state in ins, tuple(sorted(moves.items()))) for state, moves in enumerate(followers)]


def is_wanted(kind, is_first, is_second):
    """Whether something that is in the first set, or in the second one, is of the kind that is wanted."""
    both, first_alone, second_alone = kind
    if is_first and is_second:
        return both
    if is_first:
        return first_alone
    return is_second and second_alone


def joint_moves(entries, kind, first, second):
    """The entries with the two states to which two maps of moves lead, None standing for no state."""
    found = []
    for entry in entries:
        left = first.get(entry)
        right = second.get(entry)
        has_left = left is not None
        has_right = right is not None
        if (has_left and has_right) or is_wanted(kind, has_left, has_right):
            found.append((entry, left, right))
    return found


def maps_of(rows):
    """For each state, and for None, which accepts nothing: whether it accepts, and a dict of its moves."""
    found = {state: (is_in, dict(moves)) for state, (is_in, moves) in enumerate(rows)}
    found[None] = (False, {})
    return found


def joined(entries, kind, firsts, seconds, until_one=False):
    """The rows of a machine for the wanted kind of nets of two machines, or those up to the first that accepts.

    Both are told by their maps. The states are numbered in the order in which they are met.
    """
    pairs = [(0 if 0 in firsts else None, 0 if 0 in seconds else None)]
    numbers = {pairs[0]: 0}
    rows = []
    while len(rows) < len(pairs):
        left, right = pairs[len(rows)]
        is_left, left_moves = firsts[left]
        is_right, right_moves = seconds[right]
        moves = []
        for entry, left_to, right_to in joint_moves(entries, kind, left_moves, right_moves):
            pair = (left_to, right_to)
            if pair not in numbers:
                numbers[pair] = len(pairs)
                pairs.append(pair)
            moves.append((entry, numbers[pair]))
        rows.append((is_wanted(kind, is_left, is_right), tuple(moves)))
        if until_one and rows[-1][0]:
            break
    return rows


def sources_of(rows):
    """For each entry and state, the states from which one comes there by it."""
    found = {}
    for state, (_, moves) in enumerate(rows):
        for entry, to in moves:
            found.setdefault((entry, to), []).append(state)
    return found


def living_rows(rows, entries):
    """The same rows without the moves to states from which nothing is accepted."""
    sources = sources_of(rows)
    waiting = [state for state, row in enumerate(rows) if row[0]]
    living = {state: True for state in waiting}
    while waiting:
        to = waiting.pop()
        for state in [source for entry in entries for source in sources.get((entry, to), ())]:
            if state not in living:
                living[state] = True
                waiting.append(state)
    if len(living) == len(rows):
        return rows
    return [(is_in, tuple([move for move in moves if move[1] in living])) for is_in, moves in rows]


def classes_of(rows, entries):
    """For each state the number of its class: the states of a class accept the same rows.

    A class is split by what leads into another one. Of the two parts only the smaller one has to split others in
    its turn: they are split already by both together (Hopcroft).
    """
    sources = sources_of(rows)
    classes = [1 if row[0] else 0 for row in rows]
    members = {number: [state for state, own in enumerate(classes) if own == number] for number in range(2)}
    waiting = [(number, entry) for number in range(2) for entry in entries]
    used = 0
    # Often each state comes to have a class of its own, and then no more can be split.
    most = len(rows) + len([number for number in range(2) if members[number] == []])
    while used < len(waiting) and len(members) < most:
        number, entry = waiting[used]
        used = used + 1
        hits = {}
        for to in members[number]:
            for state in sources.get((entry, to), ()):
                hits.setdefault(classes[state], []).append(state)
        for hit, inside in hits.items():
            if len(inside) == len(members[hit]):
                continue
            marks = {state: True for state in inside}
            outside = [state for state in members[hit] if state not in marks]
            is_less = len(inside) < len(outside)
            smaller = inside if is_less else outside
            new = len(members)
            members[hit] = outside if is_less else inside
            members[new] = smaller
            for state in smaller:
                classes[state] = new
            waiting.extend([(new, other) for other in entries])
    return classes


def listing_classes(rows):
    """The same as classes_of, for a machine in which each move leads to a greater number: sooner done."""
    numbers = {}
    classes = [0] * len(rows)
    for state in reversed(range(len(rows))):
        is_in, moves = rows[state]
        row = (is_in, tuple([(entry, classes[to]) for entry, to in moves]))
        classes[state] = numbers.setdefault(row, len(numbers))
    return classes


def numbered(rows, classes):
    """The table with a row for each class to which one comes from state 0, in the order in which they are met."""
    numbers = {classes[0]: 0}
    met = [0]
    table = []
    while len(table) < len(met):
        is_in, moves = rows[met[len(table)]]
        for _, to in moves:
            if classes[to] not in numbers:
                numbers[classes[to]] = len(met)
                met.append(to)
        table.append((is_in, tuple([(entry, numbers[classes[to]]) for entry, to in moves])))
    return () if table[0] == GONE else tuple(table)


def merged_rows(rows):
    """The same machine, with one state for those whose rows are equal; those are one at a glance."""
    numbers = {}
    for row in rows:
        numbers.setdefault(row, len(numbers))
    news = [numbers[row] for row in rows]
    return [(mark, tuple([(entry, news[to]) for entry, to in moves])) for mark, moves in numbers]


def table_of(rows, entries):
    """The table of what a machine accepts; it has at least one row."""
    living = living_rows(rows, entries)
    return numbered(living, classes_of(living, entries))


def listing_table(listed):
    """The table of the set of these nets."""
    rows = listing_rows(listed)
    return numbered(rows, listing_classes(rows))
