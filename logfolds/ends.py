"""How runs end: what can end, with which logs, and how soon; traps, stuck states, and clearing."""

from logfolds.bits import mask_of, numbers_in
from logfolds.chains import kinds_of, place_rows
from logfolds.endruns import Finishes, Search
from logfolds.errors import NoRoad, OtherBook, TooLong
from logfolds.goals import goal_work
from logfolds.lines import lines_of
from logfolds.logsets import LogSet
from logfolds.machines import table_of
from logfolds.met import Met
from logfolds.runs import run_told
from logfolds.tops import tops_of
from logfolds.walks import least_row

# The table of the set with the log () alone.
NOTHING_LEFT = ((True, ()),)


def check_goal(program, goal):
    """Raises OtherBook if the goal is a set of logs of another book."""
    if goal is not None and goal.book != program.book:
        raise OtherBook()


def followers_in(book, last):
    """The entries that can stand behind a last entry, or "", in a net, ascending."""
    return [entry for entry in book.entries if book.result(last, entry) is None]


def ending_rows(program, work, places):
    """The rows of a machine for the logs with which one of these places can end."""
    asked = tops_of(program).asked_from(places)
    wanted = mask_of(places)
    descents = work.descents
    followers = {last: followers_in(program.book, last) for last in ("", *program.book.entries)}
    met = Met(descents.begun(asked))
    rows = []
    while len(rows) < len(met.things):
        told = met.things[len(rows)]
        moves = [(entry, met.number_of(descents.behind(told, entry, asked))) for entry in followers[told[0]]]
        rows.append(((told[2] & wanted) != 0, tuple(moves)))
    return rows


def endings(program, place, goal=None):
    """The set of the logs from which, at this place, the state can end with the goal."""
    check_goal(program, goal)
    work = goal_work(program, goal)
    known = work.worked_out
    if ("endings", place) not in known:
        known[("endings", place)] = table_of(ending_rows(program, work, (place,)), program.book.entries)
    return LogSet(program.book, known[("endings", place)])


def can_end(program, place, log, goal=None):
    """Whether a state can end with the goal."""
    check_goal(program, goal)
    descents = goal_work(program, goal).descents
    asked = tops_of(program).asked_from((place,))
    told = descents.begun(asked)
    for entry in log:
        told = descents.behind(told, entry, asked)
    return (told[2] >> place) & 1 == 1


def search_from(program, place, log, goal):
    """The search for a shortest run from a state to an end with the goal."""
    work = goal_work(program, goal)
    known = work.worked_out
    if "finishes" not in known:
        known["finishes"] = Finishes(program, work.goal)
    return Search(program, work.goal, known["finishes"], place, log)


def fewest(program, place, log, goal=None):
    """The fewest steps with which a state can end with the goal, or None."""
    check_goal(program, goal)
    return search_from(program, place, log, goal).best


def ending_run(program, place, log, goal=None, *, most=1000):
    """Any run with the fewest steps with which a state can end with the goal, if it has no more than so many."""
    check_goal(program, goal)
    search = search_from(program, place, log, goal)
    if search.best is None:
        raise NoRoad()
    if search.best > most:
        raise TooLong(search.best)
    lines, numbers = lines_of(program).told(search.ways())
    return run_told(lines, numbers)


def least_where(rows, descents, asked, is_wanted):
    """The least log that is wanted, with the places at which it stands and the set of its tops; or None.

    The rows tell for each log the places at which it stands; is_wanted takes these places and the set of tops.
    """
    met = Met((0, descents.begun(asked)))
    found = []
    while len(found) < len(met.things):
        kind, told = met.things[len(found)]
        places, moves = rows[kind]
        onward = [(entry, met.number_of((to, descents.behind(told, entry, asked)))) for entry, to in moves]
        found.append((is_wanted(places, told[2]), tuple(onward)))
        if found[-1][0]:
            return least_row(found), places, told[2]
    return None


def trap(program):
    """The least trap, as (place, log), or None."""
    rows = place_rows(program)
    stood = {place: True for places, _ in rows for place in places}
    asked = tops_of(program).asked_from(stood)
    found = least_where(
        rows, goal_work(program, None).descents, asked, lambda places, mask: (mask_of(places) & ~mask) != 0)
    if found is None:
        return None
    log, places, mask = found
    return numbers_in(mask_of(places) & ~mask)[0], log


def stuck_places(program, last, places):
    """Those of some places that are no ends and from which no step goes with this last entry, or ""."""
    log = (last,) if last else ()
    return [place for place in places if place not in program.ends and program.goes(place, log) == ()]


def stuck_state(program):
    """The least state that is stuck, as (place, log), or None."""
    found = []
    for last, places, moves in kinds_of(program):
        stuck = stuck_places(program, last, places)
        found.append((stuck != [], moves))
        if stuck:
            return stuck[0], least_row(found)
    return None


def unclear_log(program, other):
    """The least log that a program leaves and the other one does not clear, or None."""
    if program.book != other.book:
        raise OtherBook()
    ends = mask_of(program.ends)
    starts = mask_of(other.starts)
    asked = tops_of(other).asked_from(other.starts)
    work = goal_work(other, LogSet(other.book, NOTHING_LEFT))
    found = least_where(
        place_rows(program), work.descents, asked,
        lambda places, mask: (mask_of(places) & ends) != 0 and (mask & starts) == 0)
    return None if found is None else found[0]
