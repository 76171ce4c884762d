"""Settled entries: those that stay whatever comes; and forwarders, which send them on and hold back the others."""

from logfolds.errors import NothingThere
from logfolds.opens import Layers, greatest_open
from logfolds.tops import tops_of


def settled(program, place, log):
    """How many of the first entries of a log are settled at a place."""
    moves = tops_of(program).moves
    mask = tops_of(program).resting((place,))
    for k in reversed(range(len(log))):
        mask = moves[log[k]].down(mask)
        if mask == 0:
            return k + 1
    return 0


def held(program):
    """The greatest number of open entries of a state that stands, or None if there is no greatest one."""
    return greatest_open(program)


def holding(program, many):
    """The least state that stands and has at least so many open entries, as (place, log), or None."""
    if program.starts == ():
        return None
    greatest = greatest_open(program)
    if greatest is not None and many > greatest:
        return None
    return Layers(program, many).least()


class Forwarder:
    """Follows a run: it sends on the entries that are settled, and keeps the others back."""

    def __init__(self, program, place=None):
        if place is None:
            if program.starts == ():
                raise NothingThere()
            place = program.starts[0]
        self._program = program
        self.place = place
        self.log = ()
        self._many = 0

    @property
    def sent(self):
        """The entries that are settled."""
        return self.log[:self._many]

    @property
    def kept(self):
        """The open entries, behind all settled ones."""
        return self.log[self._many:]

    def __eq__(self, other):
        return (
            isinstance(other, Forwarder) and self._program == other._program
            and self.place == other.place and self.log == other.log
        )

    def __len__(self):
        return len(self.log[self._many:])

    def go(self, number):
        """Makes a step, and returns the entries that are sent thereby."""
        place, log = self._program.after(self.place, self.log, number)
        before = self._many
        self.place = place
        self.log = log
        self._many = settled(self._program, place, log)
        return self.log[before:self._many]

    def __iadd__(self, other):
        self.go(other)
        return self

    def twin(self):
        """A forwarder that is like this one, and goes its own way from then on."""
        other = Forwarder(self._program, self.place)
        other.log = self.log
        other._many = self._many
        return other
