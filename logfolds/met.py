"""Things that are numbered in the order in which they are met."""


class Met:
    """A list of things, each once; the first one has the number 0."""

    def __init__(self, first):
        self.things = [first]
        self._numbers = {first: 0}

    def number_of(self, thing):
        """The number of a thing, which is put behind the others if it is new."""
        if thing not in self._numbers:
            self._numbers[thing] = len(self.things)
            self.things.append(thing)
        return self._numbers[thing]
