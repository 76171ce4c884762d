"""Findings (point 19): finding_holds."""

import itertools
import random
import unittest

from logfolds.books import clash_of
from logfolds.ends import ending_run, unclear_log
from logfolds.errors import NoRoad
from logfolds.fences import fence, fence_holds
from logfolds.findings import finding_holds
from logfolds.logsets import LogSet
from logfolds.programs import Program
from logfolds.roads import road, road_holds
from logfolds.settled import Forwarder
from logfolds.standing import growth_holds, growth_of, stands

from tests.changed import all_changed, part_at, put_at, spots_of
from tests.helpers import LAMP, PILE, UPDOWN, drawn_program, drawn_rules, odd_values, plain_nets, results_of
from tests.plain_ends import drawn_states
from tests.plain_roads import calling, forced_run, hand_road, plain_end_of
from tests.test_ways import drawn_programs

DOWN = Program(PILE, 1, (0,), (0,), (0, ("a",), "b", 0))
CLASH = ("clash", ("a", "b"), (("b", "a", ("a",)), ("a", "b", ())), ("a", "b", "a"))


def findings_of(program, draw):
    """Findings about a program that hold."""
    found = []
    for place, log in drawn_states(draw, program, 4, 2):
        if stands(program, place, log):
            found.append(("stands", program, place, log, road(program, place, log)))
        else:
            found.append(("fenced", program, place, log, fence(program, place, log)))
        try:
            run = ending_run(program, place, log, LogSet.of(program.book, ()))
            found.append(("cleared", program, place, log, run))
        except NoRoad:
            pass
    if growth_of(program) is not None:
        found.append(("grows", program, growth_of(program)))
    return found


class Hold(unittest.TestCase):

    def test_each_word(self):
        draw = random.Random(2001)
        words = {}
        for program in drawn_programs(2002, 120):
            for finding in findings_of(program, draw):
                self.assertIs(finding_holds(finding), True)
                words[finding[0]] = words.get(finding[0], 0) + 1
        self.assertEqual(set(words), {"stands", "fenced", "grows", "cleared"})
        self.assertGreater(min(words.values()), 15)

    def test_any_road(self):
        program, length = calling([2, 3])
        run, (place, log) = forced_run(program, length)
        self.assertIs(finding_holds(("stands", program, place, log, hand_road(program, 0, run))), True)
        self.assertIs(finding_holds(("stands", program, 0, log, hand_road(program, 0, run))), False)

    def test_a_very_long_run(self):
        program, length = calling([3] * 70)
        self.assertIs(finding_holds(("stands", program, 70, (), road(program, 70, ()))), True)

    def test_cleared(self):
        for run, wanted in (((0, 2, 2), True), ((1, 0, 2, 2, 2), True), ((0, 2), False), ((0, 2, 2, 2), False),
                            ((2, 2), False), ((), False), ((0,), False)):
            self.assertIs(finding_holds(("cleared", UPDOWN, 0, ("a", "a"), run)), wanted)
        self.assertIs(finding_holds(("cleared", UPDOWN, 1, (), ())), True)
        # From any state, whether it is a start or stands or not; but only to an end.
        self.assertIs(finding_holds(("cleared", UPDOWN, 1, ("a",), (2,))), True)
        self.assertIs(finding_holds(("cleared", UPDOWN, 0, (), ())), False)
        self.assertIs(finding_holds(("cleared", Program(PILE, 1, (), (0,)), 0, (), ())), True)
        self.assertIsNone(unclear_log(UPDOWN, DOWN))
        self.assertIs(finding_holds(("cleared", DOWN, 0, ("a",) * 200, (0,) * 200)), True)
        self.assertIs(finding_holds(("cleared", DOWN, 0, ("a",) * 3000, (0,) * 3000)), True)
        self.assertIs(finding_holds(("cleared", DOWN, 0, ("a",) * 3000, (0,) * 2999)), False)


class Clashes(unittest.TestCase):

    def test_known(self):
        self.assertIs(finding_holds(CLASH), True)
        word, entries, rules, row = CLASH
        for other in (("b", "a", "b"), ("a", "a", "b"), ("a", "b"), ("a", "b", "a", "b"), ["a", "b", "a"], "aba", (),
                      ("a", "b", "c"), ("a", "b", None), ("a", ["b"], "a"), ("a", "b", ()), ("", "a", "b"), None):
            wanted = other == ("b", "a", "b") and is_plain_clash(rules, other)
            self.assertIs(finding_holds((word, entries, rules, other)), wanted)
        for other in (rules[::-1], rules):
            self.assertIs(finding_holds((word, entries, other, row)), True)
        for other in (rules + rules[:1], (*rules, ("a", "b", ("a",))), list(rules), rules[:1], (), (*rules, None),
                      (*rules, ("a", "c", ())), (*rules, ("a", "a", ("c",))), (*rules, ("a", "a", ("a", "b"))),
                      (*rules, ("a", "a")), (*rules, ["a", "a", ()]), rules[0], "", None):
            self.assertIs(finding_holds((word, entries, other, row)), False)
        for other in (("b", "a"), ("a",), ("a", "b", "b"), ["a", "b"], "ab", (), None, ("a", "b", "B"), ("a", "b", "")):
            self.assertIs(finding_holds((word, other, rules, row)), False)
        self.assertIs(finding_holds((word, ("a", "b", "c"), rules, row)), True)

    def test_any_clash_of_rules_in_any_order(self):
        draw = random.Random(2003)
        kinds = [0, 0]
        for _ in range(250):
            entries = ("a", "b", "c")[:draw.randrange(1, 4)]
            rules = tuple(drawn_rules(draw, entries, draw.randrange(1, 8)))
            clashes = [row for row in itertools.product(entries, repeat=3) if is_plain_clash(rules, row)]
            for row in itertools.product(entries, repeat=3):
                self.assertIs(finding_holds(("clash", entries, rules, row)), row in clashes)
            least = clash_of(entries, *rules)
            self.assertEqual(least, clashes[0] if clashes else None)
            kinds[len(clashes) > 1] += 1
        self.assertGreater(min(kinds), 50)


def is_plain_clash(rules, row):
    """Whether a row of three entries has rules for both pairs, and several nets."""
    results = results_of(rules)
    return row[:2] in results and row[1:] in results and len(plain_nets(results, row)) > 1


def plain_cleared(program, place, log, run):
    """Whether a run of any values comes from a state to an end with nothing on the log."""
    if any(isinstance(number, bool) or not isinstance(number, int) for number in run):
        return False
    end = plain_end_of(program, place, log, run)
    return end is not None and end[0] in program.ends and end[1] == ()


class OneThingPutOtherwise(unittest.TestCase):

    def test_papers_turned_about(self):
        draw = random.Random(2004)
        for program in [UPDOWN, *drawn_programs(2005, 40)]:
            for finding in findings_of(program, draw):
                for other in (finding[::-1], finding[1:], finding[:-1], (*finding, ()), (*finding, finding[-1]),
                              list(finding), (finding,), finding[:1], finding + finding, (finding[0], finding)):
                    self.assertIs(finding_holds(other), False)
                for word in ("stands", "fenced", "grows", "clash", "cleared", "Stands", "", None, 0, ("stands",), []):
                    if word != finding[0]:
                        changed = (word, *finding[1:])
                        self.assertIs(finding_holds(changed), is_true_all_the_same(changed))

    def test_one_part(self):
        draw = random.Random(2006)
        for program in [UPDOWN, *drawn_programs(2007, 30, 3, 6)]:
            for word, *parts in findings_of(program, draw):
                for k, part in enumerate(parts):
                    for thing in [*odd_values(), program, PILE, LogSet.every(PILE), Forwarder(UPDOWN)]:
                        finding = (word, *parts[:k], thing, *parts[k + 1:])
                        if repr(thing) != repr(part) and not (k == 0 and thing is program):
                            self.assertIs(finding_holds(finding), is_true_all_the_same(finding))

    def test_places(self):
        for place in (2, -1, True, False, "1", None, (1,), 10 ** 39):
            for word, paper in (("stands", road(UPDOWN, 1, ("a",))), ("fenced", fence(UPDOWN, 1, ("b",)))):
                log = ("a",) if word == "stands" else ("b",)
                self.assertIs(finding_holds((word, UPDOWN, 1, log, paper)), True)
                self.assertIs(finding_holds((word, UPDOWN, place, log, paper)), False)
            self.assertIs(finding_holds(("cleared", UPDOWN, place, ("a",), (2,))), False)
            self.assertIs(finding_holds(("grows", UPDOWN, (place, (), ("a",)))), False)
        self.assertIs(finding_holds(("grows", UPDOWN, (1, (), ("a",)))), True)

    def test_rows_that_are_no_nets(self):
        ways = fence(UPDOWN, 1, ("b",))
        for log in (("a", "b"), ("b", "a", "b"), ("c",), ("",), ["b"], "b", None, (("b",),), ("b", None)):
            self.assertIs(finding_holds(("fenced", UPDOWN, 1, log, ways)), False)
            self.assertIs(finding_holds(("cleared", UPDOWN, 1, log, (2,))), False)
            self.assertIs(finding_holds(("stands", UPDOWN, 1, log, road(UPDOWN, 1, ()))), False)
        self.assertIs(finding_holds(("fenced", UPDOWN, 1, ("b", "a"), ways)), True)

    def test_runs(self):
        draw = random.Random(2008)
        for number in range(60):
            program = drawn_program(draw, (PILE, LAMP)[number % 2], 2, 6)
            for place, log in drawn_states(draw, program, 3, 2):
                runs = [tuple(draw.randrange(-1, 7) for _ in range(draw.randrange(5))) for _ in range(5)]
                try:
                    run = ending_run(program, place, log, LogSet.of(program.book, ()))
                    runs += [run, *all_changed(number, run, 10)]
                except NoRoad:
                    pass
                for run in runs:
                    wanted = isinstance(run, tuple) and plain_cleared(program, place, log, run)
                    self.assertIs(finding_holds(("cleared", program, place, log, run)), wanted)

    def test_changed_papers(self):
        draw = random.Random(2009)
        for seed, program in enumerate(drawn_programs(2010, 20, 3, 6)):
            for finding in findings_of(program, draw):
                for other in all_changed(seed, finding[-1], 10):
                    changed = (*finding[:-1], other)
                    self.assertIs(finding_holds(changed), is_true_all_the_same(changed))

    def test_clash_changed(self):
        for spot in spots_of(CLASH):
            for thing in odd_values():
                if repr(thing) != repr(part_at(CLASH, spot)):
                    other = put_at(CLASH, spot, thing)
                    self.assertIs(finding_holds(other), is_true_all_the_same(other))

    def test_any_values(self):
        for thing in [*odd_values(), UPDOWN, PILE, Forwarder(UPDOWN), LogSet.none(PILE)]:
            self.assertIs(finding_holds(thing), False)
            for word in ("stands", "fenced", "grows", "clash", "cleared", thing):
                for many in range(6):
                    if word != "clash" or many != 3:
                        self.assertIs(finding_holds((word, *[thing] * many)), False)
                    self.assertIs(finding_holds((word, UPDOWN, *[thing] * many)), False)

    def test_by_name_and_unchanged(self):
        before = UPDOWN.text
        self.assertIs(finding_holds(thing=("cleared", UPDOWN, 1, ("a",), (2,))), True)
        self.assertIs(finding_holds(thing=None), False)
        self.assertEqual(UPDOWN.text, before)


def is_true_all_the_same(finding):
    """Whether a changed finding holds, by the checkers of its parts."""
    if not isinstance(finding, tuple) or not finding or not isinstance(finding[0], str):
        return False
    word, *parts = finding
    if word == "clash":
        return len(parts) == 3 and holds_clash(*parts)
    if not parts or not isinstance(parts[0], Program):
        return False
    program = parts[0]
    if word == "grows":
        return len(parts) == 2 and growth_holds(program, parts[1])
    if len(parts) != 4 or isinstance(parts[1], bool) or not isinstance(parts[1], int):
        return False
    _, place, log, paper = parts
    if not 0 <= place < program.places or not program.book.is_net(log):
        return False
    if word == "stands":
        return road_holds(program, place, log, paper)
    if word == "fenced":
        return fence_holds(program, place, log, paper)
    return word == "cleared" and isinstance(paper, tuple) and plain_cleared(program, place, log, paper)


def holds_clash(entries, rules, row):
    """Whether any values are entries, rules, and a clash, by the words of the document."""
    names = [name for name in (entries if isinstance(entries, tuple) else ()) if isinstance(name, str)]
    if not isinstance(entries, tuple) or not names or list(entries) != sorted(set(names)):
        return False
    if not all(1 <= len(name) <= 8 and set(name) <= set("abcdefghijklmnopqrstuvwxyz") for name in names):
        return False
    if not isinstance(rules, tuple) or not isinstance(row, tuple) or len(row) != 3:
        return False
    known = [(x, y, result) for x in names for y in names for result in [(), *[(z,) for z in names]]]
    if not all(rule in known for rule in rules) or len({rule[:2] for rule in rules}) < len(rules):
        return False
    return all(entry in names for entry in row) and is_plain_clash(rules, row)


if __name__ == "__main__":
    unittest.main()
