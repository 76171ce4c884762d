"""The texts of books ([18], `text` and `read`)."""

import itertools
import random
import unittest

from logfolds.books import Book
from logfolds.errors import BadBook, InvalidText, NotClear
from tests.helpers import BOOKS, LAMP, PILE, drawn_books, odd_values


def place_of(text):
    """The place of the InvalidText that `Book.read` raises, or None."""
    try:
        Book.read(text)
    except InvalidText as error:
        return error.place
    return None


def all_texts():
    """The texts of all entries a, b and rules, clear or not, as tuples of lines."""
    texts = []
    for entries in (("a",), ("a", "b"), ("b",)):
        pairs = list(itertools.product(entries, repeat=2))
        for results in itertools.product([None, "", *[f" {z}" for z in entries]], repeat=len(pairs)):
            rules = [f"{x} {y}{result}" for (x, y), result in zip(pairs, results) if result is not None]
            texts.append(("entries " + " ".join(entries), *rules))
    return texts


class Texts(unittest.TestCase):

    def test_line_by_line(self):
        self.assertEqual(PILE.text, "entries a b\na b")
        self.assertEqual(
            LAMP.text, "entries mark off on\noff off off\noff on on\non off off\non on on")
        self.assertEqual(Book(("entries",)).text, "entries entries")

    def test_read_back(self):
        for book in drawn_books(31, 60):
            lines = book.text.split("\n")
            self.assertEqual(lines[0], " ".join(("entries", *book.entries)))
            self.assertEqual(lines[1:], [" ".join((x, y, *result)) for x, y, result in book.rules])
            again = Book.read(book.text)
            self.assertEqual(again, book)
            self.assertEqual((again.entries, again.rules, again.text), (book.entries, book.rules, book.text))

    def test_texts_beyond_the_limits(self):
        names = sorted(x + y for x in "abcdefghij" for y in "abcdefghij")
        book = Book.read("entries " + " ".join(names))
        self.assertEqual((len(book.entries), len(book)), (100, 0))
        book = Book(tuple(names), *[(x, x, (x,)) for x in names])
        self.assertEqual(Book.read(book.text), book)


class NoTexts(unittest.TestCase):

    def test_no_string(self):
        for thing in odd_values():
            if not isinstance(thing, str):
                with self.subTest(str(thing)[:40]):
                    self.assertEqual(place_of(thing), 0)
        self.assertEqual(place_of(PILE), 0)

    def test_odd_strings(self):
        self.assertIsNone(place_of("entries a"))
        self.assertEqual(place_of("entries a\n"), 1)
        for text in odd_values():
            if isinstance(text, str) and not text.startswith("entries "):
                with self.subTest(text[:40]):
                    self.assertEqual(place_of(text), 0)

    def test_first_lines(self):
        for line in ("", "entries", "entries ", "entries  a", " entries a", "entries a ", "entries b a", "entries a a",
                     "entries a  b", "Entries a", "entry a", "entries A", "entries a,b", "entries a1", "entries abcdefghi",
                     "entries\ta", "entries a\r", "a b", "places 1", "entriesa"):
            with self.subTest(line):
                self.assertEqual(place_of(line), 0)
                self.assertEqual(place_of(line + "\na a"), 0)

    def test_rule_lines(self):
        for line in ("", " ", "a", "a ", "a b ", " a b", "a  b", "a b c", "c a", "a c", "a b a a", "a b -", "a b .",
                     "a b *", "A b", "a,b", "a b\ta", "a b a ", "entries a b", "a a", "a b"):
            with self.subTest(line):
                self.assertEqual(place_of("entries a b\na b\n" + line), 2)
                self.assertEqual(place_of("entries a b\na b\n" + line + "\nb a"), 2)

    def test_line_feeds_at_an_end(self):
        for book in BOOKS:
            self.assertEqual(place_of(book.text + "\n"), len(book) + 1)
            self.assertEqual(place_of("\n" + book.text), 0)
            self.assertEqual(place_of(book.text + "\n\n"), len(book) + 1)

    def test_clashes(self):
        self.assertEqual(place_of("entries a b\na b\nb a a"), 3)
        self.assertEqual(place_of("entries a b\na b\nb a a\nb"), 3)
        self.assertEqual(place_of("entries a b\na b\nb a a\n"), 3)
        for lines in all_texts():
            rules = [tuple(line.split(" ")) for line in lines[1:]]
            try:
                book = Book(tuple(lines[0].split(" ")[1:]), *[(*words[:2], words[2:]) for words in rules])
            except NotClear:
                self.assertEqual(place_of("\n".join(lines)), len(lines))
            else:
                self.assertEqual(Book.read("\n".join(lines)), book)

    def test_changed_texts_beside_all_texts(self):
        texts = all_texts()
        beginnings = {lines[:k] for lines in texts for k in range(len(lines) + 1)}
        whole = set(texts)
        pool = ["", "a", "a b", "a b a", "a b b", "b a", "b b b", "a a ", " a a", "a  a", "entries a b", "entries a",
                "entries b a", "b a b a", "a c", "a b -", "entries"]
        draw = random.Random(32)
        for _ in range(3000):
            lines = list(draw.choice(texts))
            for _ in range(draw.randrange(1, 3)):
                at = draw.randrange(len(lines) + 1)
                choice = draw.randrange(4)
                lines[at:at + draw.randrange(2)] = [draw.choice([*pool, *lines])] if choice else []
            lines = lines or [""]
            bad = [k for k in range(len(lines)) if tuple(lines[:k + 1]) not in beginnings]
            place = place_of("\n".join(lines))
            if bad:
                self.assertEqual(place, bad[0], lines)
            else:
                self.assertIn(tuple(lines), whole)
                self.assertIn(place, (None, len(lines)))

    def test_an_error_of_its_own(self):
        with self.assertRaises(InvalidText):
            Book.read("entries b a")
        with self.assertRaises(BadBook):
            Book(("b", "a"))


if __name__ == "__main__":
    unittest.main()
