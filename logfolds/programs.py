"""Programs: steps that write a log, their runs, and programs put together."""

from logfolds.books import Book, book_told, clash_of, known_of
from logfolds.errors import BadProgram, InvalidText, NoStep, NothingThere, OtherBook
from logfolds.steps import are_places, is_place_count, is_step, numbers_line
from logfolds.steps import place_count_told, places_told, step_line, steps_told
from logfolds.values import is_integer


def check_places(places, starts, ends):
    """Raises BadProgram with the first word of those whose value is none."""
    if not is_place_count(places):
        raise BadProgram("places")
    if not are_places(starts, places):
        raise BadProgram("starts")
    if not are_places(ends, places):
        raise BadProgram("ends")


def check_steps(steps, places, entries):
    """Raises BadProgram with the first value that is no step."""
    known = known_of(("", *entries))
    for step in steps:
        if not is_step(step, places, known):
            raise BadProgram(step)


def numbers_by_place(steps):
    """For each place with steps, the numbers of its steps, ascending."""
    found = {}
    for number, step in enumerate(steps):
        found.setdefault(step[0], []).append(number)
    return found


def line_at(lines, at):
    """The line with this number, or, if the lines end before it, one that tells nothing."""
    return lines[at] if at < len(lines) else ""


def head_told(lines, at):
    """The number of places, the starts and the ends that are told from this line on."""
    places = place_count_told(line_at(lines, at))
    if places is None:
        raise InvalidText(at)
    starts = places_told(line_at(lines, at + 1), "starts", places)
    if starts is None:
        raise InvalidText(at + 1)
    ends = places_told(line_at(lines, at + 2), "ends", places)
    if ends is None:
        raise InvalidText(at + 2)
    return places, starts, ends


def spread(places, factor, shift):
    """Places with new numbers, each multiplied by the factor and raised by the shift."""
    return tuple([place * factor + shift for place in places])


def spread_steps(steps, factor, shift):
    """Steps whose places have new numbers likewise."""
    return [(place * factor + shift, looks, entry, to * factor + shift) for place, looks, entry, to in steps]


def bridges(ends, starts):
    """A step that writes nothing from each end to each start."""
    return [(end, (), "", start) for end in ends for start in starts]


def pairs_of(ones, others, factor):
    """The places for all pairs of places."""
    return tuple([one * factor + other for one in ones for other in others])


class Program:
    """A book, places with starts and ends, and steps from place to place that write a log."""

    def __init__(self, book, places, starts, ends, *steps):
        check_places(places, starts, ends)
        check_steps(steps, places, book.entries)
        self.book = book
        self.places = places
        self.starts = starts
        self.ends = ends
        self._steps = tuple(sorted(set(steps)))
        self._numbers = numbers_by_place(self._steps)
        # What other files work out for this program: they keep it here, so that it is done once.
        self.worked_out = {}

    @classmethod
    def of(cls, book, places, starts, ends, steps):
        """The program with these parts and a tuple of steps."""
        check_places(places, starts, ends)
        if not isinstance(steps, tuple):
            raise BadProgram("steps")
        return cls(book, places, starts, ends, *steps)

    @classmethod
    def read(cls, text):
        """The program with this text."""
        lines, entries, rules = book_told(text)
        at = len(rules) + 1
        places, starts, ends = head_told(lines, at)
        steps = steps_told(lines[at + 3:], places, known_of(("", *entries)))
        if at + 3 + len(steps) < len(lines):
            raise InvalidText(at + 3 + len(steps))
        if clash_of(entries, *rules) is not None:
            raise InvalidText(len(lines))
        book = Book(entries, *rules)
        return cls(book, places, starts, ends, *steps)

    @property
    def steps(self):
        """The steps, ascending."""
        return self._steps

    @property
    def text(self):
        """The text of this program."""
        head = [
            self.book.text,
            numbers_line("places", (self.places,)),
            numbers_line("starts", self.starts),
            numbers_line("ends", self.ends),
        ]
        return "\n".join(head + [step_line(step) for step in self._steps])

    def __eq__(self, other):
        return (
            isinstance(other, Program) and self.book == other.book and self.places == other.places
            and self.starts == other.starts and self.ends == other.ends and self._steps == other._steps
        )

    def _does_go(self, number, place, log):
        """Whether the step with this number goes from a state."""
        start, looks, _, _ = self._steps[number]
        last = log[-1] if log else ""
        return start == place and (looks == () or last in looks)

    def goes(self, place, log):
        """The numbers of the steps that go from a state, ascending."""
        numbers = self._numbers.get(place, [])
        return tuple([number for number in numbers if self._does_go(number, place, log)])

    def _make_step(self, place, kept, number):
        """Makes a step from a place and a list that holds the log; returns the place to which it leads."""
        if not is_integer(number) or not 0 <= number < len(self._steps):
            raise NoStep(number)
        if not self._does_go(number, place, kept):
            raise NoStep(number)
        _, _, entry, to = self._steps[number]
        if entry != "":
            self.book.push(kept, entry)
        return to

    def after(self, place, log, number):
        """The state to which a step leads."""
        kept = list(log)
        to = self._make_step(place, kept, number)
        return to, tuple(kept)

    def follow(self, *numbers, place=None, log=()):
        """The state to which a run comes, from a place, or for None from the first start, and from a log."""
        if place is None:
            if self.starts == ():
                raise NothingThere()
            place = self.starts[0]
        kept = list(log)
        for number in numbers:
            place = self._make_step(place, kept, number)
        return place, tuple(kept)

    def _next_level(self, level, seen):
        """The states not seen yet to which one step leads from those of a level, in their order."""
        found = []
        for _, log, place in level:
            for number in self.goes(place, log):
                to, longer = self.after(place, log, number)
                if (to, longer) not in seen:
                    seen[(to, longer)] = True
                    found.append((len(longer), longer, to))
        return sorted(found)

    def states(self, many):
        """Yields the states to which runs of at most so many steps come, those with fewer steps first."""
        seen = {(place, ()): True for place in self.starts}
        level = [(0, (), place) for place in self.starts]
        made = 0
        while level:
            for _, log, place in level:
                yield place, log
            # The next level is sought only when it is asked for: it may be a great one.
            if made >= many:
                return
            level = self._next_level(level, seen)
            made = made + 1

    def __add__(self, other):
        """One after the other."""
        if self.book != other.book:
            raise OtherBook()
        shift = self.places
        moved = spread_steps(other.steps, 1, shift)
        links = bridges(self.ends, spread(other.starts, 1, shift))
        steps = [*self._steps, *moved, *links]
        ends = spread(other.ends, 1, shift)
        places = shift + other.places
        return Program(self.book, places, self.starts, ends, *steps)

    def __or__(self, other):
        """Either of them."""
        if self.book != other.book:
            raise OtherBook()
        shift = self.places
        moved = spread_steps(other.steps, 1, shift)
        steps = [*self._steps, *moved]
        starts = self.starts + spread(other.starts, 1, shift)
        ends = self.ends + spread(other.ends, 1, shift)
        places = shift + other.places
        return Program(self.book, places, starts, ends, *steps)

    def __and__(self, other):
        """Both at once, woven in any way into one log."""
        if self.book != other.book:
            raise OtherBook()
        factor = other.places
        ours = [step for b in range(factor) for step in spread_steps(self._steps, factor, b)]
        theirs = [step for a in range(self.places) for step in spread_steps(other.steps, 1, a * factor)]
        steps = [*ours, *theirs]
        starts = pairs_of(self.starts, other.starts, factor)
        ends = pairs_of(self.ends, other.ends, factor)
        places = self.places * factor
        return Program(self.book, places, starts, ends, *steps)

    def again(self):
        """This program any number of times, at least once."""
        links = bridges(self.ends, self.starts)
        steps = [*self._steps, *links]
        return Program(self.book, self.places, self.starts, self.ends, *steps)
