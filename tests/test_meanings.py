"""Meanings (point 17): Meaning, after, misfit, fits, rules_that_fit."""

import itertools
import random
import unittest

from logfolds.books import Book, clash_of
from logfolds.errors import BadMeaning
from logfolds.meanings import Meaning, rules_that_fit

from tests.helpers import FREE, LAMP, LAST, PILE, SHORT, drawn_book, drawn_row, odd_values, plain_folds, results_of

PAIR = Book(("a", "b"))


def drawn_deed(draw, many):
    """A deed for so many conditions."""
    return tuple(draw.choice([None, *range(many)]) for _ in range(many))


def drawn_deeds(draw, book, many):
    """A deed for each entry of a book."""
    return [drawn_deed(draw, many) for _ in book.entries]


def plain_after(book, deeds, condition, row):
    """Where a row leads, by the words of the document."""
    for entry in row:
        if condition is not None:
            condition = deeds[book.entries.index(entry)][condition]
    return condition


def plain_misfit(book, many, deeds):
    """The least (x, y, condition) of all for which the two sides lead to unlike things, or None."""
    return min([
        (x, y, condition) for x, y, result in book.rules for condition in range(many)
        if plain_after(book, deeds, condition, (x, y)) != plain_after(book, deeds, condition, result)], default=None)


class Made(unittest.TestCase):

    def check_bad(self, part, book, many, *deeds):
        """Checks that a meaning is refused with this part."""
        with self.assertRaises(BadMeaning) as caught:
            Meaning(book, many, *deeds)
        self.assertEqual(repr(caught.exception.part), repr(part))

    def test_many(self):
        for many in odd_values():
            if isinstance(many, bool) or not isinstance(many, int) or many < 1:
                self.check_bad("many", PILE, many, (0,), (0,))
                self.check_bad("many", PILE, many)
                self.check_bad("many", PILE, many, None, None, None)
        self.assertTrue(Meaning(PILE, 1, (0,), (0,)).fits)

    def test_how_many_deeds(self):
        for deeds in ((), ((0,),), ((0,), (0,), (0,)), ("a",), (None,) * 7):
            self.check_bad("deeds", PILE, 1, *deeds)
        self.check_bad("deeds", FREE, 2, *[(0, 1)] * 5)
        self.assertIsNone(Meaning(FREE, 2, *[(0, 1)] * 6).misfit())

    def test_the_first_deed_that_is_none(self):
        good = (1, None, 0)
        for thing in [*odd_values(), (0, 1), (0, 1, 2, 0), [0, 1, 2], (0, 1, 3), (0, 1, -1), (True, 1, 2), (0, False, 2),
                      (0, 1, "2"), (0, 1, (2,)), (0, 1, 10 ** 39), (), (None,), (None, None)]:
            self.check_bad(thing, PILE, 3, thing, good)
            self.check_bad(thing, PILE, 3, good, thing)
            self.check_bad(thing, PILE, 3, thing, thing)
            self.check_bad(thing, LAMP, 3, good, thing, [])
        self.check_bad((0, 1), PILE, 3, (0, 1), None)
        for deed in (good, (None,) * 3, (0, 0, 0), (2, 2, None)):
            Meaning(PILE, 3, deed, good)

    def test_great_numbers(self):
        self.check_bad((0,), PILE, 10 ** 39, (0,), (0,))
        many = 2000
        meaning = Meaning(PILE, many, tuple(range(1, many)) + (None,), (None,) + tuple(range(many - 1)))
        self.assertEqual(meaning.misfit(), ("a", "b", many - 1))
        self.assertEqual(meaning.after(0, ("a",) * 200), 200)


class After(unittest.TestCase):

    def test_known(self):
        # A counter up to two.
        meaning = Meaning(PILE, 3, (1, 2, None), (None, 0, 1))
        self.assertEqual([meaning.after(condition, ("a",)) for condition in range(3)], [1, 2, None])
        self.assertEqual([meaning.after(condition, ("b", "a")) for condition in range(3)], [None, 1, 2])
        self.assertEqual([meaning.after(condition, ()) for condition in range(3)], [0, 1, 2])
        self.assertIsNone(meaning.after(0, ("a", "a", "a", "b", "b", "b")))
        self.assertEqual(meaning.after(0, ("a", "a", "b", "b", "a")), 1)
        self.assertEqual(meaning.after(condition=1, row=("a", "b")), 1)
        self.assertEqual(meaning.misfit(), ("a", "b", 2))

    def test_beside_plain_reckoning(self):
        draw = random.Random(1901)
        for _ in range(150):
            book = drawn_book(draw)
            many = draw.randrange(1, 5)
            deeds = drawn_deeds(draw, book, many)
            meaning = Meaning(book, many, *deeds)
            for _ in range(5):
                row = drawn_row(draw, book, 6)
                for condition in range(many):
                    self.assertEqual(meaning.after(condition, row), plain_after(book, deeds, condition, row))

    def test_long_rows(self):
        turn = Meaning(SHORT, 2, (1, 0))
        self.assertEqual([turn.after(0, ("a",) * many) for many in (199, 200, 201)], [1, 0, 1])


class Fits(unittest.TestCase):

    def test_examples(self):
        self.assertEqual(
            [Meaning(PILE, 2, (1, 0), (1, 0)).fits, Meaning(PILE, 2, (1, None), (None, 0)).misfit()],
            [True, ("a", "b", 1)])
        self.assertIs(Meaning(PILE, 2, (1, None), (None, 0)).fits, False)

    def test_beside_plain_reckoning(self):
        draw = random.Random(1902)
        kinds = [0, 0]
        for number in range(600):
            book = (PILE, LAMP, SHORT)[number % 3] if number % 2 else drawn_book(draw)
            many = draw.randrange(1, 4)
            deeds = drawn_deeds(draw, book, many)
            meaning = Meaning(book, many, *deeds)
            wanted = plain_misfit(book, many, deeds)
            self.assertEqual(meaning.misfit(), wanted)
            self.assertIs(meaning.fits, wanted is None)
            kinds[wanted is None] += 1
        self.assertGreater(min(kinds), 50)

    def test_the_least_one(self):
        book = Book(("a", "b", "c"), ("b", "c", ("c",)), ("a", "c", ("c",)), ("a", "b", ("b",)))
        for deeds in itertools.product(itertools.product((None, 0, 1), repeat=2), repeat=3):
            self.assertEqual(Meaning(book, 2, *deeds).misfit(), plain_misfit(book, 2, deeds))

    def test_each_row_leads_to_the_same_as_its_net(self):
        draw = random.Random(1903)
        checked = 0
        while checked < 150:
            book = drawn_book(draw)
            many = draw.randrange(1, 4)
            meaning = Meaning(book, many, *drawn_deeds(draw, book, many))
            if not meaning.fits:
                continue
            checked += bool(book.rules)
            for _ in range(4):
                row = drawn_row(draw, book, 7)
                for condition in range(many):
                    end = meaning.after(condition, row)
                    self.assertEqual(meaning.after(condition, book.net(row)), end)
                    # Fold by fold.
                    for shorter in plain_folds(results_of(book.rules), row):
                        self.assertEqual(meaning.after(condition, shorter), end)

    def test_a_book_without_rules_fits_any(self):
        draw = random.Random(1904)
        for _ in range(20):
            self.assertIs(Meaning(PAIR, 3, *drawn_deeds(draw, PAIR, 3)).fits, True)

    def test_unchanged_and_again(self):
        before = PILE.text
        meaning = Meaning(PILE, 2, (1, None), (None, 0))
        for _ in range(2):
            self.assertEqual([meaning.misfit(), meaning.fits, meaning.after(0, ("a",))], [("a", "b", 1), False, 1])
        self.assertEqual(PILE.text, before)


def plain_rules(many, deeds):
    """The rules that fit, by the words of the document."""
    found = []
    names = sorted(deeds)
    for x, y in itertools.product(names, repeat=2):
        ends = [None if deeds[x][c] is None else deeds[y][deeds[x][c]] for c in range(many)]
        if ends == list(range(many)):
            found.append((x, y, ()))
        else:
            fitting = [z for z in names if list(deeds[z]) == ends]
            if fitting:
                found.append((x, y, (fitting[0],)))
    return tuple(found)


class RulesThatFit(unittest.TestCase):

    def test_known(self):
        self.assertEqual(rules_that_fit(2, t=(1, 0)), (("t", "t", ()),))
        self.assertEqual(rules_that_fit(2, off=(0, 0), on=(1, 1)), LAST)
        self.assertEqual(rules_that_fit(condition_count=2, on=(1, 1), off=(0, 0)), LAST)
        self.assertEqual(rules_that_fit(3), ())
        self.assertEqual(rules_that_fit(1, a=(0,)), (("a", "a", ()),))
        self.assertEqual(rules_that_fit(1, a=(None,)), (("a", "a", ("a",)),))
        self.assertEqual(rules_that_fit(3, up=(1, 2, None), down=(None, 0, 1)), ())

    def test_deeds_that_are_alike(self):
        self.assertEqual(rules_that_fit(2, b=(0, 0), a=(0, 0)), tuple(
            (x, y, ("a",)) for x in "ab" for y in "ab"))
        # What does nothing is nothing, also if a name does just that.
        self.assertEqual(rules_that_fit(2, a=(0, 1), b=(1, 0)), (
            ("a", "a", ()), ("a", "b", ("b",)), ("b", "a", ("b",)), ("b", "b", ())))

    def test_beside_plain_reckoning(self):
        draw = random.Random(1905)
        for _ in range(400):
            many = draw.randrange(1, 4)
            names = draw.sample(["a", "b", "c", "aa", "zz", "in", "self", "deeds"], draw.randrange(7))
            deeds = {name: drawn_deed(draw, many) for name in names}
            found = rules_that_fit(many, **deeds)
            self.assertEqual(found, plain_rules(many, deeds))
            self.assertEqual(list(found), sorted(found))
            if deeds and clash_of(tuple(sorted(deeds)), *found) is None:
                book = Book(tuple(sorted(deeds)), *found)
                self.assertTrue(Meaning(book, many, *[deeds[name] for name in sorted(deeds)]).fits)

    def test_clear_or_not(self):
        # The rules are told whether they are clear or not; these are not.
        draw = random.Random(1906)
        clear = [0, 0]
        for _ in range(300):
            deeds = {name: drawn_deed(draw, 3) for name in "abcd"}
            found = rules_that_fit(3, **deeds)
            clear[clash_of(("a", "b", "c", "d"), *found) is None] += 1
        self.assertGreater(min(clear), 10)

    def test_six_names(self):
        turns = {f"n{chr(97 + k)}": tuple((c + k + 1) % 7 for c in range(7)) for k in range(6)}
        turns = {name[1:]: deed for name, deed in turns.items()}
        found = rules_that_fit(7, **turns)
        self.assertEqual(len(found), 36)
        self.assertIsNone(clash_of(tuple("abcdef"), *found))
        self.assertIn(("a", "f", ()), found)
        self.assertIn(("f", "f", ("e",)), found)


if __name__ == "__main__":
    unittest.main()
