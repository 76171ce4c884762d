"""Books: entries, and the rules by which two neighbouring entries are folded."""

from logfolds.errors import BadBook, InvalidText, NoFold, NotClear
from logfolds.values import is_ascending, is_integer

LETTERS = "abcdefghijklmnopqrstuvwxyz"


def is_name(thing):
    """Whether any value is a string of one to eight letters a to z."""
    if not isinstance(thing, str) or not 1 <= len(thing) <= 8:
        return False
    return all([letter in LETTERS for letter in thing])


def are_entries(thing):
    """Whether any value is an ascending tuple of one or more names."""
    if not isinstance(thing, tuple) or thing == ():
        return False
    return all([is_name(name) for name in thing]) and is_ascending(thing)


def known_of(names):
    """A dict that has just these names as its keys, to look them up in."""
    return {name: True for name in names}


def is_known(thing, known):
    """Whether any value is one of the known names."""
    # A list or a dict cannot be looked up, so the kind is asked first.
    return isinstance(thing, str) and thing in known


def is_rule(thing, known):
    """Whether any value is a rule of known entries."""
    if not isinstance(thing, tuple) or len(thing) != 3:
        return False
    x, y, result = thing
    if not isinstance(result, tuple) or len(result) > 1:
        return False
    return all([is_known(entry, known) for entry in (x, y, *result)])


def check_rules(rules, known):
    """Raises BadBook with the first value that is no rule or has the pair of an earlier one."""
    pairs = set()
    for rule in rules:
        if not is_rule(rule, known) or rule[:2] in pairs:
            raise BadBook(rule)
        pairs.add(rule[:2])


def results_of(rules):
    """The results of the rules by their pairs."""
    return {(x, y): result for x, y, result in rules}


def seconds_of(rules):
    """For each entry x, the entries y, ascending, for which there is a rule (x, y)."""
    found = {}
    for x, y, _ in sorted(rules):
        found.setdefault(x, []).append(y)
    return found


def is_clash(x, y, z, results):
    """Whether the two ways to fold a row of three entries, both there, end with two nets."""
    left = results[(x, y)] + (z,)
    right = (x,) + results[(y, z)]
    # At most two entries are left, and the result of two is at most one: a net.
    return results.get(left, left) != results.get(right, right)


def clash_of(entries, *rules):
    """The least clash of rules for these entries, at most one for each pair, or None."""
    results = results_of(rules)
    seconds = seconds_of(rules)
    for x in entries:
        for y in seconds.get(x, ()):
            for z in seconds.get(y, ()):
                if is_clash(x, y, z, results):
                    return x, y, z
    return None


def book_lines(entries, rules):
    """The lines of the text of a book."""
    first = " ".join(["entries", *entries])
    return [first] + [" ".join([x, y, *result]) for x, y, result in rules]


def entries_told(line):
    """The entries that the first line of a text tells, or None."""
    words = line.split(" ")
    entries = tuple(words[1:])
    if words[0] != "entries" or not are_entries(entries):
        return None
    return entries


def rule_told(line, known):
    """The rule that a line tells, or None."""
    words = tuple(line.split(" "))
    rule = words[:2] + (words[2:],)
    return rule if is_rule(rule, known) else None


def rules_told(lines, known):
    """The rules that lines tell, up to the first line that cannot be the next one of a rule."""
    rules = []
    for line in lines:
        rule = rule_told(line, known)
        if rule is None or (rules and rule[:2] <= rules[-1][:2]):
            break
        rules.append(rule)
    return tuple(rules)


def book_told(text):
    """The lines of a text, and the entries and rules, clear or not, with which it begins."""
    if not isinstance(text, str):
        raise InvalidText(0)
    lines = text.split("\n")
    entries = entries_told(lines[0])
    if entries is None:
        raise InvalidText(0)
    return lines, entries, rules_told(lines[1:], known_of(entries))


def parts_read(text):
    """The entries and rules that the text of a book tells."""
    lines, entries, rules = book_told(text)
    if len(rules) + 1 < len(lines):
        raise InvalidText(len(rules) + 1)
    if clash_of(entries, *rules) is not None:
        raise InvalidText(len(lines))
    return entries, rules


def followers_of(entries, results):
    """For each entry, and for the ground "", what can stand right behind it in a net, ascending."""
    found = {x: [y for y in entries if (x, y) not in results] for x in entries}
    found[""] = list(entries)
    return found


def rooms_of(followers):
    """For each entry and the ground, how many entries can stand behind it in a net, one after the other.

    As many as there are keys stands for any number: then some entry comes twice.
    """
    rooms = {x: 0 for x in followers}
    for _ in followers:
        rooms = {x: max([rooms[y] + 1 for y in followers[x]], default=0) for x in followers}
    return rooms


class Book:
    """Entries and clear rules: every row has just one net, whatever is folded first."""

    def __init__(self, entries, *rules):
        if not are_entries(entries):
            raise BadBook("entries")
        known = known_of(entries)
        check_rules(rules, known)
        clash = clash_of(entries, *rules)
        if clash is not None:
            raise NotClear(clash)
        self._entries = entries
        self._rules = tuple(sorted(rules))
        self._known = known
        self._results = results_of(rules)

    @classmethod
    def of(cls, entries, rules):
        """The book with these entries and a tuple of rules."""
        if not are_entries(entries):
            raise BadBook("entries")
        if not isinstance(rules, tuple):
            raise BadBook("rules")
        return cls(entries, *rules)

    @classmethod
    def read(cls, text):
        """The book with this text."""
        entries, rules = parts_read(text)
        return cls(entries, *rules)

    @property
    def entries(self):
        """The entries, ascending."""
        return self._entries

    @property
    def rules(self):
        """The rules, ascending."""
        return self._rules

    @property
    def text(self):
        """The text of this book."""
        return "\n".join(book_lines(self._entries, self._rules))

    def __eq__(self, other):
        return isinstance(other, Book) and self._entries == other._entries and self._rules == other._rules

    def __len__(self):
        return len(self._rules)

    def is_entry(self, thing):
        """Whether any value is an entry of this book."""
        return is_known(thing, self._known)

    def result(self, x, y):
        """The result of the rule for two entries, or None."""
        return self._results.get((x, y))

    def is_net(self, thing):
        """Whether any value is a net of this book."""
        if not isinstance(thing, tuple):
            return False
        return all([self.is_entry(entry) for entry in thing]) and self.folds(thing) == ()

    def push(self, kept, entry):
        """Puts an entry behind a list that holds a net, and folds the list to a net again."""
        while kept:
            result = self.result(kept[-1], entry)
            if result is None:
                break
            kept.pop()
            if result == ():
                return
            entry = result[0]
        kept.append(entry)

    def net(self, row):
        """The net of a row."""
        kept = []
        for entry in row:
            self.push(kept, entry)
        return tuple(kept)

    def folds(self, row):
        """The indices of the first ones of neighbours that can be folded, ascending."""
        return tuple([k for k in range(len(row) - 1) if (row[k], row[k + 1]) in self._results])

    def folded(self, row, index):
        """The row after the one fold at this index."""
        if not is_integer(index) or index not in self.folds(row):
            raise NoFold(index)
        return row[:index] + self.result(row[index], row[index + 1]) + row[index + 2:]

    def nets(self, length):
        """Yields the nets with so many entries, ascending, one by one."""
        followers = followers_of(self._entries, self._results)
        rooms = rooms_of(followers)
        waiting = [()]
        while waiting:
            row = waiting.pop()
            if len(row) == length:
                yield row
                continue
            # Only rows that can be made long enough wait, so no search is in vain.
            needed = min(length - len(row) - 1, len(rooms))
            last = row[-1] if row else ""
            for entry in reversed(followers[last]):
                if rooms[entry] >= needed:
                    waiting.append(row + (entry,))
