"""What can't have been heard: which STEPS of a HEARING CLASH, and TRAILS that show it."""

from unseenturn.errors import BadPaper, NotSure, OutOfPlace, TooGreat
from unseenturn.hearings import heard_by, moves_by, moves_of, ways_on
from unseenturn.lots import is_within
from unseenturn.orbits import wrong_least
from unseenturn.tables import is_among, is_rising, is_tuple_of

MOST_CLASHING = 10


def are_numbers(hearing, thing):
    """Whether a thing is a rising tuple of numbers of STEPS."""
    if not isinstance(thing, tuple) or not all(is_among(number, 0, len(hearing) - 1) for number in thing):
        return False
    return is_rising(thing)


def clash_by(table, wish, hearing, steps):
    """The BOARD where some STEPS of a HEARING are told, or the first refusal that is due."""
    board = heard_by(table, wish, hearing)
    if not are_numbers(hearing, steps):
        raise OutOfPlace("no rising tuple of numbers of steps")
    return board


def come_by(moves, orbits):
    """All ORBITS, rising, to which some ORBITS come by the moves of a STEP."""
    return tuple(sorted({goal for orbit in orbits for goal in moves[orbit]}))


def told_moves(board, hearing, steps):
    """A list of the moves by each STEP, with what was heard at these STEPS alone."""
    told = {number: True for number in steps}
    return [moves_by(board, step, number in told) for number, step in enumerate(hearing)]


def trail_by(board, hearing, steps):
    """A list of the ORBITS that can be come to behind so many STEPS, with what was heard at these STEPS alone."""
    found = [board.whole]
    for moves in told_moves(board, hearing, steps):
        found.append(come_by(moves, found[-1]))
    return found


def least_of_both(first, later):
    """Of two tuples that of fewer things, else the first one as tuples are; None is none."""
    if first is None or (len(later), later) < (len(first), first):
        return later
    return first


def first_wrong(table, wish, hearing):
    """How many STEPS the least beginning has that can't be, None where all can."""
    board = heard_by(table, wish, hearing)
    levels = ways_on(board, moves_of(board, hearing))
    return next((number for number, level in enumerate(levels) if not level), None)


def are_clashing(table, wish, hearing, steps):
    """Whether these STEPS of the HEARING CLASH."""
    board = clash_by(table, wish, hearing, steps)
    return trail_by(board, hearing, steps)[-1] == ()


def least_clash(table, wish, hearing):
    """The LEAST CLASH, None where the HEARING can be."""
    board = heard_by(table, wish, hearing)
    if len(hearing) > MOST_CLASHING:
        raise TooGreat("too many steps")
    level = {board.whole: ()}
    for number, step in enumerate(hearing):
        heard, unheard = moves_by(board, step, True), moves_by(board, step, False)
        later = {}
        # Of all that come to the same ORBITS the least goes on: whatever stands behind stands behind it as well.
        for orbits, steps in level.items():
            for left, chosen in ((come_by(unheard, orbits), steps), (come_by(heard, orbits), steps + (number,))):
                later[left] = least_of_both(later.get(left), chosen)
        level = later
    return level.get(())


def trail(table, wish, hearing, steps):
    """The TRAIL of these STEPS, without an ORBIT more than has to be."""
    board = clash_by(table, wish, hearing, steps)
    found = trail_by(board, hearing, steps)
    if found[-1]:
        raise NotSure("these steps don't clash")
    return tuple(found)


def check_trail(table, wish, hearing, steps, paper):
    """None of a TRAIL of these STEPS; BadPaper of what is none."""
    board = clash_by(table, wish, hearing, steps)
    if not is_tuple_of(paper, len(hearing) + 1, len(hearing) + 1):
        raise BadPaper(None)
    moves = told_moves(board, hearing, steps)
    due = board.whole
    for place, told in enumerate(paper):
        if not isinstance(told, tuple) or wrong_least(table, told, ()) < len(told) or not is_within(due, told):
            raise BadPaper(place)
        if place == len(hearing) and told:
            raise BadPaper(place)
        if place < len(hearing):
            due = come_by(moves[place], told)
