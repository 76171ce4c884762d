"""Meanings: what entries do to the conditions of something, and which rules fit that."""

from logfolds.errors import BadMeaning
from logfolds.values import is_integer


def is_condition(thing, many):
    """Whether any value is one of so many conditions."""
    return is_integer(thing) and 0 <= thing < many


def is_deed(thing, many):
    """Whether any value is a deed for so many conditions."""
    if not isinstance(thing, tuple) or len(thing) != many:
        return False
    return all([other is None or is_condition(other, many) for other in thing])


def led(deed, condition):
    """Where a deed leads from a condition, or from None, from which it leads nowhere."""
    return None if condition is None else deed[condition]


def led_by_row(deeds, condition, row):
    """Where a row leads from a condition, by the deeds of its entries."""
    for entry in row:
        condition = led(deeds[entry], condition)
    return condition


def deed_of_two(first, second):
    """The deed that does one and then the other."""
    return tuple([led(second, condition) for condition in first])


class Meaning:
    """A book, so many conditions, and a deed for each entry: where it leads from each condition."""

    def __init__(self, book, many, *deeds):
        if not is_integer(many) or many < 1:
            raise BadMeaning("many")
        if len(deeds) != len(book.entries):
            raise BadMeaning("deeds")
        for deed in deeds:
            if not is_deed(deed, many):
                raise BadMeaning(deed)
        self._book = book
        self._many = many
        self._deeds = dict(zip(book.entries, deeds))

    def after(self, condition, row):
        """Where a row leads from a condition: a condition or None."""
        return led_by_row(self._deeds, condition, row)

    def misfit(self):
        """The least (x, y, condition) for which the two sides of the rule lead to unlike things, or None."""
        for x, y, result in self._book.rules:
            for condition in range(self._many):
                if led_by_row(self._deeds, condition, (x, y)) != led_by_row(self._deeds, condition, result):
                    return x, y, condition
        return None

    @property
    def fits(self):
        """Whether there is no misfit."""
        return self.misfit() is None


def results_by_deeds(condition_count, deeds):
    """For each deed that is had by a name, or by nothing, the result that stands for it."""
    found = {tuple(range(condition_count)): ()}
    for name in sorted(deeds):
        found.setdefault(deeds[name], (name,))
    return found


def rules_that_fit(condition_count, **deeds):
    """The ascending tuple of all rules of two of these names that fit their deeds."""
    results = results_by_deeds(condition_count, deeds)
    rules = []
    for x in sorted(deeds):
        for y in sorted(deeds):
            result = results.get(deed_of_two(deeds[x], deeds[y]))
            if result is not None:
                rules.append((x, y, result))
    return tuple(rules)
