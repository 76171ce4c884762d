"""What several tests share: odd values, drawn books and programs, and plain ways to the right results."""

import itertools
import random

from logfolds.books import Book
from logfolds.programs import Program

LAST = (("off", "off", ("off",)), ("off", "on", ("on",)), ("on", "off", ("off",)), ("on", "on", ("on",)))

PILE = Book(("a", "b"), ("a", "b", ()))
LAMP = Book(("mark", "off", "on"), *LAST)
FREE = Book(("a", "b", "c", "d", "e", "f"))
TURNS = Book(("a", "b", "c", "d"), ("a", "b", ()), ("b", "a", ()), ("c", "d", ()), ("d", "c", ()))
ONCE = Book(("a", "b"), ("a", "a", ("a",)), ("b", "b", ("b",)))
SHORT = Book(("a",), ("a", "a", ()))
BOOKS = (PILE, LAMP, FREE, TURNS, ONCE, SHORT)
# Two colours of marks, abc and def: marks of one colour count, and four are as good as none.
FOURS = (
    ("a", "a", ("b",)), ("a", "b", ("c",)), ("a", "c", ()), ("b", "a", ("c",)), ("b", "b", ()), ("b", "c", ("a",)),
    ("c", "a", ()), ("c", "b", ("a",)), ("c", "c", ("b",)))
MARKS = Book(
    ("a", "b", "c", "d", "e", "f"), *FOURS,
    *[tuple(["def"["abc".index(x)], "def"["abc".index(y)], tuple("def"["abc".index(z)] for z in r)])
      for x, y, r in FOURS])
# One fold brings the next one about, deeper down: a, b, c with f behind them are nothing.
CHAINED = Book(("a", "b", "c", "d", "e", "f"), ("a", "e", ()), ("b", "d", ("e",)), ("c", "f", ("d",)))
# x with z behind it is b, which c beneath swallows; only y takes c away.
SWALLOWED = Book(("b", "c", "x", "y", "z"), ("c", "b", ("c",)), ("c", "y", ()), ("x", "z", ("b",)))
# An entry b or c goes down through all entries a, and is b and c in turn.
ROUND = Book(("a", "b", "c"), ("a", "b", ("c",)), ("a", "c", ("b",)), ("b", "b", ("b",)), ("c", "b", ("c",)))

UPDOWN = Program(PILE, 2, (0,), (1,), (0, (), "a", 0), (0, (), "", 1), (1, ("a",), "b", 1))


def nested(depth):
    """A value that is nested so deep, of tuples, lists and dicts."""
    thing = "a"
    for k in range(depth):
        thing = ((thing,), [thing], {"a": thing})[k % 3]
    return thing


def odd_values():
    """Values of all kinds that may be passed where any value may be."""
    return [
        None, True, False, 0, 1, -1, 2, 7, 1000, 1001, 10 ** 39, -(10 ** 39), "", "a", "b", "ab", "A", "a b",
        "entries", "entries a", "entries a\n", "*", ".", "-", "0", "1", "%", "~", "\n", "abcdefgh", "abcdefghi",
        "(" * 200, "x" * 4000, (), ("a",), ("a", "b"), ("b", "a"), ("a", "a"), ("a", ""), ("",), (0,), (True,),
        (None,), ("a", "b", ()), ("a", "b", ("a",)), ("a", "b", ["a"]), ("a", "b", ("a", "b")), ("a", "b", "a"),
        ("a", "b", None), ["a", "b", ()], (0, (), "a", 0), (0, [], "a", 0), [], ["a"], [0], {}, {"a": 1},
        {"a": ["b"]}, {0: ()}, ([],), ({},), (("a",),), nested(30), tuple(range(4000)), ["a"] * 4000,
    ]


def drawn_rules(draw, entries, share):
    """Rules for about this share (of ten) of the pairs, in any order, clear or not."""
    rules = []
    for x, y in itertools.product(entries, repeat=2):
        if draw.randrange(10) < share:
            rules.append((x, y, draw.choice([(), *[(z,) for z in entries]])))
    draw.shuffle(rules)
    return rules


def drawn_book(draw):
    """A book; most of them have a few rules."""
    while True:
        entries = ("a", "b", "c", "d")[:draw.randrange(1, 5)]
        rules = drawn_rules(draw, entries, draw.randrange(1, 6))
        if plain_clash(entries, rules) is None:
            return Book(entries, *rules)


def drawn_books(seed, many):
    """Some books, among them those of this file."""
    draw = random.Random(seed)
    return [*BOOKS, *[drawn_book(draw) for _ in range(many)]]


def drawn_step(draw, book, places):
    """A step for a program with this book and so many places."""
    looks = ()
    if draw.randrange(3) == 0:
        looks = tuple(sorted(draw.sample(("", *book.entries), draw.randrange(1, 3))))
    return draw.randrange(places), looks, draw.choice(("", *book.entries)), draw.randrange(places)


def drawn_places(draw, places):
    """Some of so many places, perhaps none."""
    return tuple(place for place in range(places) if draw.randrange(3) == 0)


def drawn_program(draw, book, places=4, steps=8):
    """A program with this book and at most so many places and steps."""
    many = draw.randrange(1, places + 1)
    told = [drawn_step(draw, book, many) for _ in range(draw.randrange(steps + 1))]
    return Program(book, many, drawn_places(draw, many), drawn_places(draw, many), *told)


def drawn_row(draw, book, longest):
    """A row with at most so many entries."""
    return tuple(draw.choice(book.entries) for _ in range(draw.randrange(longest + 1)))


def plain_folds(results, row):
    """All rows that one fold makes of a row."""
    return [
        row[:k] + results[row[k:k + 2]] + row[k + 2:]
        for k in range(len(row) - 1) if row[k:k + 2] in results
    ]


def plain_nets(results, row):
    """All nets to which a row can be folded, in any order of folds."""
    rows, nets = {row}, set()
    while rows:
        last = rows.pop()
        shorter = plain_folds(results, last)
        rows.update(shorter)
        if not shorter:
            nets.add(last)
    return nets


def results_of(rules):
    """The results of rules by their pairs."""
    return {(x, y): result for x, y, result in rules}


def plain_clash(entries, rules):
    """The least row of three entries that has several nets, or None."""
    results = results_of(rules)
    for row in itertools.product(entries, repeat=3):
        if len(plain_nets(results, row)) > 1:
            return row
    return None


def plain_net(book, row):
    """The net of a row, with the first possible fold made first."""
    results = results_of(book.rules)
    while plain_folds(results, row):
        row = plain_folds(results, row)[0]
    return row


def plain_after(program, place, log):
    """For each number of a step that goes from a state, the state to which it leads."""
    found = {}
    last = log[-1] if log else ""
    for number, (start, looks, entry, to) in enumerate(program.steps):
        if start == place and (not looks or last in looks):
            found[number] = (to, plain_net(program.book, log + (entry,)) if entry else log)
    return found


def plain_states(program, many):
    """The states to which runs of at most so many steps come, in the order of the document."""
    fewest = {(place, ()): 0 for place in program.starts}
    level = list(fewest)
    for steps in range(1, many + 1):
        later = {state for place, log in level for state in plain_after(program, place, log).values()}
        level = [state for state in later if state not in fewest]
        for state in level:
            fewest[state] = steps
    return sorted(fewest, key=lambda state: (fewest[state], len(state[1]), state[1], state[0]))
