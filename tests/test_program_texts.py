"""The texts of programs ([18], `text` and `read`)."""

import itertools
import random
import unittest

from logfolds.errors import InvalidText
from logfolds.programs import Program
from tests.helpers import LAMP, PILE, UPDOWN, drawn_books, drawn_program, odd_values

HEAD = "entries a b\na b\nplaces 12\nstarts 0 10\nends"


def place_of(text):
    """The place of the InvalidText that `Program.read` raises, or None."""
    try:
        Program.read(text)
    except InvalidText as error:
        return error.place
    return None


def books_of_a():
    """The lines of the texts of all books with the one entry a, of which all rules are clear."""
    return [("entries a",), ("entries a", "a a"), ("entries a", "a a a")]


def heads_of(places):
    """The lines for so many places, with all starts and ends."""
    chosen = [some for k in range(places + 1) for some in itertools.combinations(range(places), k)]
    for starts, ends in itertools.product(chosen, repeat=2):
        yield f"places {places}", " ".join(["starts", *map(str, starts)]), " ".join(["ends", *map(str, ends)])


def steps_of(places):
    """The lines of all steps with the entry a and so many places, and what they tell."""
    looks = {"*": (), ".": ("",), ".,a": ("", "a"), "a": ("a",)}
    told = itertools.product(range(places), looks, "-a", range(places))
    return {f"{p} {look} {x} {q}": (p, looks[look], x.strip("-"), q) for p, look, x, q in told}


STEPS = {f"places {places}": steps_of(places) for places in (1, 2)}
HEADS = [lines + head for lines in books_of_a() for places in (1, 2) for head in heads_of(places)]
BEGINNINGS = {head[:k] for head in HEADS for k in range(len(head) + 1)}


def begins_a_text(lines):
    """Whether some text of a program with the one entry a and one or two places begins with these lines."""
    if lines in BEGINNINGS:
        return True
    for k in (4, 5):
        if lines[:k] in HEADS:
            steps = STEPS[lines[k - 3]]
            if any(line not in steps for line in lines[k:]):
                return False
            told = [steps[line] for line in lines[k:]]
            return told == sorted(set(told))
    return False


class Texts(unittest.TestCase):

    def test_line_by_line(self):
        self.assertEqual(UPDOWN.text.split("\n"), [
            "entries a b", "a b", "places 2", "starts 0", "ends 1", "0 * - 1", "0 * a 0", "1 a b 1"])
        program = Program(LAMP, 12, (), (), (11, ("", "off", "on"), "mark", 3), (10, ("",), "", 0), (9, (), "on", 10))
        self.assertEqual(program.text.split("\n"), LAMP.text.split("\n") + [
            "places 12", "starts", "ends", "9 * on 10", "10 . - 0", "11 .,off,on mark 3"])
        self.assertEqual(Program(PILE, 1000, (0, 5, 999), (999,)).text.split("\n")[2:], [
            "places 1000", "starts 0 5 999", "ends 999"])

    def test_read_back(self):
        draw = random.Random(61)
        for book in drawn_books(61, 60):
            program = drawn_program(draw, book, 12, 20)
            again = Program.read(program.text)
            self.assertEqual(again, program)
            self.assertEqual((again.text, again.steps), (program.text, program.steps))

    def test_names_like_words_of_a_text(self):
        text = "entries ends entries places starts\nplaces ends\nstarts starts starts\nplaces 1\nstarts\nends\n0 ends places 0"
        program = Program.read(text)
        self.assertEqual(program.book.rules, (("places", "ends", ()), ("starts", "starts", ("starts",))))
        self.assertEqual(program.text, text)
        self.assertEqual(place_of("entries places\nplaces places\nplaces places"), 2)


class NoTexts(unittest.TestCase):

    def test_no_string(self):
        for thing in odd_values():
            if not isinstance(thing, str):
                with self.subTest(str(thing)[:40]):
                    self.assertEqual(place_of(thing), 0)
        self.assertEqual(place_of(UPDOWN), 0)
        self.assertEqual(place_of(PILE), 0)

    def test_odd_strings(self):
        for text in odd_values():
            if isinstance(text, str):
                with self.subTest(text[:40]):
                    self.assertEqual(place_of(text), 1 if text.startswith("entries ") else 0)

    def test_too_few_lines(self):
        for text in (UPDOWN.text, HEAD):
            lines = text.split("\n")
            for k in range(1, 5):
                self.assertEqual(place_of("\n".join(lines[:k])), k)
            for k in range(5, len(lines) + 1):
                self.assertIsNone(place_of("\n".join(lines[:k])))

    def test_clashes(self):
        rules = "entries a b\na b\nb a a"
        rest = "places 1\nstarts 0\nends 0\n0 * a 0"
        self.assertEqual(place_of(f"{rules}\n{rest}"), 7)
        self.assertEqual(place_of(f"{rules}\nplaces 1\nstarts 0\nends"), 6)
        self.assertEqual(place_of(rules), 3)
        self.assertEqual(place_of(f"{rules}\nplaces 1"), 4)
        self.assertEqual(place_of(f"{rules}\n{rest}\n"), 7)
        self.assertEqual(place_of(f"{rules}\nplaces 0\nstarts 0\nends"), 3)
        self.assertEqual(place_of(f"{rules}\n{rest}\n0 * c 0"), 7)
        self.assertEqual(place_of(f"{rules}\n{rest}\n0 * a 0"), 7)
        self.assertEqual(place_of(f"{rules}\n{rest}\n0 * b 0"), 8)

    def test_lines_of_places(self):
        for line in ("places", "places ", "places 0", "places 01", "places +1", "places -1", "places 1 ", "places  1",
                     " places 1", "places 1001", "places 1 2", "places a", "places 1.0", "places 1_0", "places " + "9" * 40,
                     "places " + "0" * 40 + "1", "places " + "9" * 41, "places " + "1" * 3900, "Places 1", "place 1", "1",
                     "starts 0", "", "places 1\r"):
            with self.subTest(line[:40]):
                self.assertEqual(place_of(f"entries a b\na b\n{line}\nstarts\nends"), 2)
        for many in (1, 9, 10, 999, 1000):
            self.assertEqual(Program.read(f"entries a b\nplaces {many}\nstarts\nends").places, many)

    def test_lines_of_starts_and_ends(self):
        for numbers in (" ", " 1 0", " 0 0", " 12", " 0 12", " 00", " 01", " +1", " -1", " -0", " a", "  0", " 0 ", "0",
                        " 0  1", " 0,1", " .", " *", " 1_1", " " + "1" * 40, " " + "0" * 40, " " + "1" * 41,
                        " " + "1" * 3900, "\t0"):
            with self.subTest(numbers[:40]):
                self.assertEqual(place_of(f"entries a b\nplaces 12\nstarts{numbers}\nends\n0 * a 0"), 2)
                self.assertEqual(place_of(f"entries a b\nplaces 12\nstarts\nends{numbers}\n0 * a 0"), 3)
        self.assertEqual(place_of("entries a b\nplaces 12\nends\nstarts"), 2)
        self.assertEqual(place_of("entries a b\nplaces 12\nstarts\nstarts"), 3)
        self.assertEqual(place_of("entries a b\nplaces 12\nstarts\n\nends"), 3)
        self.assertEqual(place_of("entries a b\nplaces 12\nStarts\nends"), 2)
        self.assertEqual(Program.read("entries a b\nplaces 12\nstarts 0 2 11\nends 10 11").starts, (0, 2, 11))

    def test_lines_of_steps(self):
        bad = [
            "", " ", "0 * a", "0 * a 0 0", "0 * a 0 ", " 0 * a 0", "0  * a 0", "0 *  a 0", "0 * a  0", "0 *  0", "0  a 0",
            "00 * a 0", "0 * a 00", "01 * a 0", "+0 * a 0", "-0 * a 0", "0 * a -0", "12 * a 0", "0 * a 12", "0 * c 0",
            "0 * A 0", "0 * * 0", "0 * . 0", "0 - a 0", "0 c a 0", "0 a,a a 0", "0 b,a a 0", "0 a,. a 0", "0 .,. a 0",
            "0 , a 0", "0 a, a 0", "0 ,a a 0", "0 a,,b a 0", "0 *,a a 0", "0 a,* a 0", "0 .a a 0", "0 a.b a 0", "0 a a,b 0",
            "0 a;b a 0", "a * a 0", "0 * a a", "0 * a 0\r", "0\t* a 0", "0 * a " + "1" * 40, "0 * a " + "0" * 41,
            "1" * 41 + " * a 0", "0 * a " + "1" * 3900, "a b", "places 12", "ends", "entries a b",
        ]
        self.assertIsNone(place_of(HEAD))
        for line in bad:
            with self.subTest(line[:40]):
                self.assertEqual(place_of(f"{HEAD}\n{line}"), 5)
                self.assertEqual(place_of(f"{HEAD}\n0 * - 0\n{line}\n11 * - 0"), 6)

    def test_order_of_steps(self):
        good = ["0 * - 0", "0 * - 2", "0 * - 10", "0 * a 0", "0 . - 0", "0 .,a - 0", "0 .,b - 0", "0 a - 0", "0 a,b - 0",
                "0 b - 0", "2 * - 0", "10 * - 0"]
        self.assertEqual(Program.read("\n".join([HEAD, *good])).text, "\n".join([HEAD, *good]))
        for k in range(len(good) - 1):
            told_twice = [*good[:k + 1], *good[k:]]
            self.assertEqual(place_of("\n".join([HEAD, *told_twice])), 5 + k + 1)
            exchanged = [*good[:k], good[k + 1], good[k], *good[k + 2:]]
            self.assertEqual(place_of("\n".join([HEAD, *exchanged])), 5 + k + 1)

    def test_line_feeds_at_an_end(self):
        draw = random.Random(62)
        for book in drawn_books(62, 20):
            text = drawn_program(draw, book).text
            lines = len(text.split("\n"))
            self.assertEqual(place_of(text + "\n"), lines)
            self.assertEqual(place_of(text + "\n\n"), lines)
            self.assertEqual(place_of("\n" + text), 0)

    def test_changed_texts_beside_all_texts(self):
        pool = ["", "entries a", "a a", "a a a", "places 1", "places 2", "starts", "starts 0", "starts 0 1", "starts 1 0",
                "ends", "ends 0", "ends 1", "ends 01", "places 0", "0 * a 0", "0 * - 1", "1 .,a - 1", "0 a,. a 0",
                "0 . a 0 ", "1 a a 1", "1 * a 2", "0  a 0", "a a "]
        draw = random.Random(63)
        seen = {True: 0, False: 0}
        for _ in range(6000):
            head = draw.choice(HEADS)
            steps = STEPS[head[-3]]
            told = sorted(draw.sample(sorted(steps), draw.randrange(4)), key=lambda line: steps[line])
            lines = [*head, *told]
            for _ in range(draw.randrange(3)):
                at = draw.randrange(len(lines) + 1)
                choice = draw.randrange(4)
                lines[at:at + draw.randrange(2)] = [draw.choice([*pool, *lines])] if choice else []
            lines = lines or [""]
            bad = [k for k in range(len(lines)) if not begins_a_text(tuple(lines[:k + 1]))]
            whole = not bad and len(lines) > 3 and tuple(lines) not in {head[:-1] for head in HEADS}
            wanted = bad[0] if bad else None if whole else len(lines)
            self.assertEqual(place_of("\n".join(lines)), wanted, lines)
            seen[wanted is None] += 1
        self.assertGreater(min(seen.values()), 1000)


if __name__ == "__main__":
    unittest.main()
