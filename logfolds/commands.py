"""Commands: the words of a line, and whether they are a command for some book or for the one that is there."""

from logfolds.books import Book, is_name, known_of, parts_read
from logfolds.errors import InvalidText
from logfolds.programs import head_told
from logfolds.steps import number_told, steps_told

MOST_DIGITS = 9
MOST_LOGS = 100

# The forms of the commands that are words alone: of names N, places P, and logs L; and of how many logs are told, M.
FORMS = {
    "then": "NNN",
    "either": "NNN",
    "both": "NNN",
    "again": "NN",
    "forget": "N",
    "stands": "NPL",
    "run": "NPL",
    "most": "N",
    "left": "NM",
    "trap": "N",
    "stuck": "N",
    "clears": "NN",
    "held": "N",
}


def count_told(word):
    """The number that a word of a command tells, or None."""
    return number_told(word) if len(word) <= MOST_DIGITS else None


def log_told(words, book):
    """The log that words tell: a net of the book, or without a book any row of names; None if they tell none."""
    log = tuple(words)
    if book is None:
        return log if all([is_name(entry) for entry in log]) else None
    return log if book.is_net(log) else None


def part_told(sign, word):
    """What a word tells for a sign of a form, or None."""
    if sign == "N":
        return word if is_name(word) else None
    number = count_told(word)
    if sign == "M" and number is not None and number > MOST_LOGS:
        return None
    return number


def form_told(words, book):
    """What the words of a command with a form tell behind the first one, or None."""
    form = FORMS.get(words[0], "")
    many = len(form)
    parts = []
    if form.endswith("L"):
        many = many - 1
        log = log_told(words[many + 1:], book)
        parts = [log]
        words = words[:many + 1]
    if form == "" or len(words) != many + 1:
        return None
    parts = [part_told(form[k], words[k + 1]) for k in range(many)] + parts
    return None if None in parts else tuple(parts)


def names_in(lines):
    """The entries that lines of steps name, if they are such lines."""
    found = []
    for line in lines:
        words = line.split(" ")
        if len(words) == 4:
            found.extend(words[1].split(","))
            found.append(words[2])
    return [word for word in found if is_name(word)]


def program_told(words, book):
    """The name of a program, and its places, starts, ends and steps, or None.

    Without a book, the text is one with any book. A text that is none may also raise InvalidText.
    """
    if len(words) < 2 or not is_name(words[1]):
        return None
    lines = text_of(words[2:]).split("\n")
    places, starts, ends = head_told(lines, 0)
    entries = names_in(lines[3:]) if book is None else book.entries
    steps = steps_told(lines[3:], places, known_of(("", *entries)))
    return (words[1], places, starts, ends, steps) if len(steps) + 3 == len(lines) else None


def text_of(words):
    """The text that words tell, a stroke standing for each line feed."""
    return " ".join(words).replace(" / ", "\n")


def parts_told(words, book):
    """What the words of a command tell behind the first one, or None; or InvalidText is raised."""
    if words[0] == "book":
        entries, rules = parts_read(text_of(words[1:]))
        return (Book(entries, *rules),)
    if words[0] == "program":
        return program_told(words, book)
    return form_told(words, book)


def command_told(line, book):
    """The first word of a command, and what the others tell; or None for any value that is no command.

    It is a command for this book, or for None with any book.
    """
    if not isinstance(line, str) or "\n" in line:
        return None
    words = line.split(" ")
    try:
        parts = parts_told(words, book)
    except InvalidText:
        return None
    return None if parts is None else (words[0], parts)
