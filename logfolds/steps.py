"""Places and steps: what is one, and the lines of a text that tell them."""

from logfolds.books import is_known
from logfolds.values import is_ascending, is_integer

DIGITS = "0123456789"
MOST_DIGITS = 40
MOST_PLACES = 1000


def is_place_count(thing):
    """Whether any value is a number of places that a program can have."""
    return is_integer(thing) and 1 <= thing <= MOST_PLACES


def is_place(thing, places):
    """Whether any value is one of so many places."""
    return is_integer(thing) and 0 <= thing < places


def are_places(thing, places):
    """Whether any value is an ascending tuple of some of so many places."""
    if not isinstance(thing, tuple):
        return False
    return all([is_place(place, places) for place in thing]) and is_ascending(thing)


def are_looks(thing, known):
    """Whether any value is an ascending tuple of known names."""
    if not isinstance(thing, tuple):
        return False
    return all([is_known(look, known) for look in thing]) and is_ascending(thing)


def is_step(thing, places, known):
    """Whether any value is a step of so many places; the known names are the entries and "" here."""
    if not isinstance(thing, tuple) or len(thing) != 4:
        return False
    place, looks, entry, to = thing
    if not is_place(place, places) or not is_place(to, places):
        return False
    return are_looks(looks, known) and is_known(entry, known)


def numbers_line(word, numbers):
    """The line with a word and numbers."""
    return " ".join([word] + [str(number) for number in numbers])


def step_line(step):
    """The line of a step."""
    place, looks, entry, to = step
    looked = ",".join([look or "." for look in looks]) or "*"
    written = entry or "-"
    return f"{place} {looked} {written} {to}"


def number_told(word):
    """The number that a word tells, or None."""
    if not 1 <= len(word) <= MOST_DIGITS or not all([sign in DIGITS for sign in word]):
        return None
    if word[0] == "0" and word != "0":
        return None
    return int(word)


def place_count_told(line):
    """The number of places that a line tells, or None."""
    words = line.split(" ")
    if len(words) != 2 or words[0] != "places":
        return None
    count = number_told(words[1])
    return count if is_place_count(count) else None


def places_told(line, word, places):
    """Some of so many places, ascending, that a line with this word tells, or None."""
    words = line.split(" ")
    numbers = tuple([number_told(other) for other in words[1:]])
    if words[0] != word or not are_places(numbers, places):
        return None
    return numbers


def entry_told(word, sign):
    """What a word tells: "" if it is the sign; None if it is empty, which tells nothing."""
    if word == sign:
        return ""
    return word or None


def step_told(line, places, known):
    """The step that a line tells, or None."""
    words = line.split(" ")
    if len(words) != 4:
        return None
    looks = ()
    if words[1] != "*":
        looks = tuple([entry_told(part, ".") for part in words[1].split(",")])
    step = (number_told(words[0]), looks, entry_told(words[2], "-"), number_told(words[3]))
    return step if is_step(step, places, known) else None


def steps_told(lines, places, known):
    """The steps that lines tell, up to the first line that cannot be the next one of a step."""
    steps = []
    for line in lines:
        step = step_told(line, places, known)
        if step is None or (steps and step <= steps[-1]):
            break
        steps.append(step)
    return tuple(steps)
