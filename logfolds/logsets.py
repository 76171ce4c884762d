"""Sets of logs: the sets of nets that some finite machine accepts, each known by its least machine."""

from logfolds.errors import BadTable, NoLog, NotNet, OtherBook
from logfolds.machines import IN_BOTH, IN_EITHER, IN_FIRST_ALONE, IN_JUST_ONE
from logfolds.machines import joined, listing_table, maps_of, nets_table, table_of
from logfolds.values import is_ascending, is_integer
from logfolds.walks import Counts, all_rows, least_row, longest_walk


def is_move(thing, book, many):
    """Whether any value is a move by an entry of the book to one of so many states."""
    if not isinstance(thing, tuple) or len(thing) != 2:
        return False
    entry, state = thing
    return book.is_entry(entry) and is_integer(state) and 0 <= state < many


def is_row(thing, book, many):
    """Whether any value is a row of a machine with so many states."""
    if not isinstance(thing, tuple) or len(thing) != 2:
        return False
    is_in, moves = thing
    if not isinstance(is_in, bool) or not isinstance(moves, tuple):
        return False
    return all([is_move(move, book, many) for move in moves]) and is_ascending([move[0] for move in moves])


class LogSet:
    """A set of nets of a book. It is made by the class methods, and by the operators."""

    def __init__(self, book, table):
        # An attribute, as in programs: were it a property, its setter would stand behind each sign of a program (L28).
        self.book = book
        self._table = table
        # Each sign and each look into the set needs them, so they are made once.
        self._maps = maps_of(table)
        self._counts = None

    @classmethod
    def of(cls, book, *rows):
        """The set of these nets."""
        for row in rows:
            if not book.is_net(row):
                raise NotNet(row)
        return cls(book, listing_table(rows))

    @classmethod
    def every(cls, book):
        """The set of all nets."""
        return cls(book, nets_table(book))

    @classmethod
    def none(cls, book):
        """The set without logs."""
        return cls(book, ())

    @classmethod
    def machine(cls, book, *rows):
        """The set of the nets that a machine accepts, which need not be the least one."""
        for row in rows:
            if not is_row(row, book, len(rows)):
                raise BadTable(row)
        entries = book.entries
        return cls(book, table_of(joined(entries, IN_BOTH, maps_of(rows), maps_of(nets_table(book))), entries))

    @property
    def table(self):
        """The table."""
        return self._table

    def __eq__(self, other):
        return isinstance(other, LogSet) and self.book == other.book and self._table == other._table

    def __bool__(self):
        return bool(self._table)

    def __contains__(self, x):
        """Whether any value is a log of this set."""
        if not isinstance(x, tuple) or self._table == ():
            return False
        state = 0
        for entry in x:
            # A list or a dict cannot be looked up, so it is asked first whether this is an entry.
            state = self._maps[state][1].get(entry) if self.book.is_entry(entry) else None
            if state is None:
                return False
        return self._table[state][0]

    def _joint_rows(self, other, kind, until_one=False):
        """The rows of a machine for the wanted kind of logs of both, or those up to the first that accepts."""
        if self.book != other.book:
            raise OtherBook()
        return joined(self.book.entries, kind, self._maps, other._maps, until_one)

    def __and__(self, other):
        """The logs of both."""
        return LogSet(self.book, table_of(self._joint_rows(other, IN_BOTH), self.book.entries))

    def __or__(self, other):
        """The logs of this set or the other one."""
        return LogSet(self.book, table_of(self._joint_rows(other, IN_EITHER), self.book.entries))

    def __sub__(self, other):
        """The logs of this set that are not in the other one."""
        return LogSet(self.book, table_of(self._joint_rows(other, IN_FIRST_ALONE), self.book.entries))

    def __invert__(self):
        """The other nets of the book."""
        entries = self.book.entries
        nets = maps_of(nets_table(self.book))
        return LogSet(self.book, table_of(joined(entries, IN_FIRST_ALONE, nets, self._maps), entries))

    def within(self, b):
        """Whether each log of this set is in the other one."""
        return least_row(self._joint_rows(b, IN_FIRST_ALONE, True)) is None

    def least(self):
        """The least log."""
        if not self._table:
            raise NoLog()
        return least_row(self._table)

    def longest(self):
        """The greatest length of a log, or None if there is no greatest one."""
        if not self._table:
            raise NoLog()
        # Each state of a table leads to a log, so the longest walk is the longest log.
        return longest_walk({state: [to for _, to in moves] for state, (_, moves) in enumerate(self._table)})

    def count(self, length):
        """How many logs of this length there are."""
        if not self._table:
            return 0
        if self._counts is None:
            self._counts = Counts(self._table)
        return self._counts.of_length(length)

    def logs(self):
        """Yields all logs in their order, one by one."""
        if not self._table:
            return
        table = self._table
        most = self.longest()
        for row in all_rows(table, most):
            yield row

    def parting(self, b):
        """The least log that is in just one of both sets, or None."""
        return least_row(self._joint_rows(b, IN_JUST_ONE, True))
