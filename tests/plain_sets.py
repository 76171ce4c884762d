"""Plain ways to tell what is in a set of logs and what its table is, and drawn machines."""

import itertools

from logfolds.books import Book
from logfolds.logsets import LogSet

from tests.helpers import FREE, LAMP, ONCE, PILE, SHORT, TURNS

SMALL_BOOKS = (PILE, LAMP, ONCE, SHORT, TURNS, Book(("a",)), Book(("a", "b")))
SIX = Book(("a", "b", "c", "d", "e", "f"), ("a", "b", ()), ("c", "c", ("c",)), ("d", "e", ("f",)))
ALL_BOOKS = (*SMALL_BOOKS, FREE, SIX)


def plain_is_net(book, row):
    """Whether a row of entries is a net."""
    pairs = {(x, y) for x, y, _ in book.rules}
    return not pairs.intersection(zip(row, row[1:]))


def short_nets(book, longest):
    """All nets up to this length, in the order of logs."""
    rows = [row for many in range(longest + 1) for row in itertools.product(book.entries, repeat=many)]
    return [row for row in rows if plain_is_net(book, row)]


def in_order(logs):
    """Logs in their order, each once."""
    return sorted(set(logs), key=lambda log: (len(log), log))


def logs_up_to(logset, longest):
    """The logs of a set up to this length, asked for one by one."""
    return [log for log in short_nets(logset.book, longest) if log in logset]


def first_logs(logset, many):
    """The first logs of a set, as they are yielded."""
    return list(itertools.islice(logset.logs(), many))


def plain_table(book, logs):
    """The table of a finite set of nets, by the words of the document: the rests behind rows, as they are met."""
    def rests(row):
        return frozenset(log[len(row):] for log in logs if log[:len(row)] == row)

    if not logs:
        return ()
    met, rows = [rests(())], [()]
    table = []
    for row in rows:
        moves = []
        for entry in book.entries:
            behind = rests((*row, entry))
            if behind and behind not in met:
                met.append(behind)
                rows.append((*row, entry))
            if behind:
                moves.append((entry, met.index(behind)))
        table.append((row in logs, tuple(moves)))
    return tuple(table)


def accepts(rows, net):
    """Whether a machine with these rows accepts a net."""
    if not rows:
        return False
    state = 0
    for entry in net:
        state = dict(rows[state][1]).get(entry)
        if state is None:
            return False
    return rows[state][0]


def told_apart(table):
    """The pairs of states of a table, or of any machine, that do not accept the same rows."""
    moves = [dict(row[1]) for row in table]
    pairs = list(itertools.combinations(range(len(table)), 2))
    apart = {(i, j) for i, j in pairs if table[i][0] != table[j][0] or set(moves[i]) != set(moves[j])}
    while True:
        more = {
            (i, j) for i, j in pairs if (i, j) not in apart
            and any(tuple(sorted((moves[i][entry], moves[j][entry]))) in apart for entry in moves[i])
        }
        if not more:
            return apart
        apart |= more


def flaws_of(book, table):
    """What keeps a tuple from being the table of some set of logs of a book, as a list of words."""
    flaws = []
    met, lasts = [0], [""]
    results = {(x, y) for x, y, _ in book.rules}
    for number, last in zip(met, lasts):
        is_in, moves = table[number]
        if not isinstance(is_in, bool) or list(moves) != sorted(dict(moves).items()):
            flaws.append("form")
        for entry, to in moves:
            if (last, entry) in results or entry not in book.entries:
                flaws.append("no net")
            if to not in met:
                met.append(to)
                lasts.append(entry)
    if met != list(range(len(table))):
        flaws.append("numbers")
    living = {number for number, row in enumerate(table) if row[0]}
    for _ in table:
        living |= {number for number, row in enumerate(table) if any(to in living for _, to in row[1])}
    if len(living) < len(table):
        flaws.append("a state that leads to nothing")
    # Once no state leads to nothing, states with other entries accept other rows.
    if len(told_apart(table)) < len(table) * (len(table) - 1) // 2:
        flaws.append("two states for one")
    return flaws


def drawn_machine(draw, book, states):
    """The rows of a machine with so many states: any moves, also those that no net takes."""
    rows = []
    for _ in range(states):
        entries = [entry for entry in book.entries if draw.randrange(4)]
        rows.append((draw.randrange(3) == 0, tuple((entry, draw.randrange(states)) for entry in entries)))
    return rows


def drawn_set(draw, book):
    """A set of logs: often one of a drawn machine, or with just a few nets."""
    choice = draw.randrange(8)
    if choice == 0:
        return LogSet.every(book)
    if choice == 1:
        return LogSet.none(book)
    if choice < 4:
        nets = short_nets(book, 3)
        return LogSet.of(book, *[draw.choice(nets) for _ in range(draw.randrange(6))])
    return LogSet.machine(book, *drawn_machine(draw, book, draw.randrange(1, 7)))


def drawn_sets(draw, book, many):
    """Several sets of logs of a book."""
    return [drawn_set(draw, book) for _ in range(many)]


def ring(book, entry, many, goods=(0,)):
    """The set of the logs of just this entry whose length, divided by so many, leaves one of these rests."""
    return LogSet.machine(book, *[(k in goods, ((entry, (k + 1) % many),)) for k in range(many)])
