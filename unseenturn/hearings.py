"""HEARINGS: what must have been, told back from what was heard."""

from unseenturn.errors import BadHearing, BadRun, Never, OutOfPlace
from unseenturn.feeling import are_faces_at, faces_at, is_pattern_of, pattern_turned, put_at
from unseenturn.lots import Board
from unseenturn.rows import told_back
from unseenturn.tables import is_among, is_stand_of, is_tuple_of, is_turning_of, need_run, plus, turned
from unseenturn.wishes import need_wish

MOST_STEPS = 100


def is_step(table, thing):
    """Whether a thing is a STEP at a good TABLE."""
    if not is_tuple_of(thing, 3, 5) or not isinstance(thing[0], str) or not isinstance(thing[-1], bool):
        return False
    if thing[0] == "blind" and len(thing) == 3:
        return is_stand_of(table, thing[1])
    if thing[0] != "felt" or len(thing) != 5 or not is_pattern_of(table, thing[1]):
        return False
    return are_faces_at(table, thing[1], thing[2]) and are_faces_at(table, thing[1], thing[3])


def wrong_step(table, things):
    """The number of the first thing that is no STEP, or rings with one behind it; else how many there are."""
    for number, thing in enumerate(things):
        if not is_step(table, thing) or thing[-1] and number < len(things) - 1:
            return number
    return len(things)


def need_hearing_of(table, hearing):
    """None, or BadHearing of what is no HEARING at a good TABLE."""
    if not is_tuple_of(hearing, 0, MOST_STEPS):
        raise BadHearing(None)
    number = wrong_step(table, hearing)
    if number < len(hearing):
        raise BadHearing(number)


def behind_step(table, step, stand):
    """The STAND behind a STEP that is done to a turned one, whatever was heard."""
    if step[0] == "blind":
        return plus(table[0], stand, step[1])
    return put_at(stand, step[1], step[3])


def is_heard(board, step, stand, later):
    """Whether a STEP from a turned STAND to a later one is felt, and rings, as it was heard."""
    if step[0] == "felt" and faces_at(stand, step[1]) != step[2]:
        return False
    return (board.leasts[later] not in board.numbers) == step[-1]


def moves_by(board, step, is_told):
    """For each ORBIT a dict from ORBITS to how many of its STANDS come there, with what was heard if that is told."""
    found = {}
    for orbit, stands in board.orbits.items():
        goals = {}
        for stand in stands:
            later = behind_step(board.table, step, stand)
            if not is_told or is_heard(board, step, stand, later):
                goals[board.leasts[later]] = goals.get(board.leasts[later], 0) + 1
        found[orbit] = goals
    return found


def moves_of(board, hearing):
    """A list of the moves by each STEP of a good HEARING, with what was heard."""
    # A STEP that comes again has the same moves.
    found = {}
    for step in hearing:
        if step not in found:
            found[step] = moves_by(board, step, True)
    return [found[step] for step in hearing]


def keepers(board, orbit):
    """By how many TURNINGS a STAND of an ORBIT comes to each one of it."""
    return len(board.table[1]) // len(board.orbits[orbit])


def ways_on(board, moves):
    """A list of dicts: behind so many STEPS, from each ORBIT to how many RUNS so far FIT and lie there."""
    found = [{orbit: len(board.orbits[orbit]) for orbit in board.whole}]
    for goals in moves:
        level = {}
        for orbit, many in found[-1].items():
            for goal, stands in goals[orbit].items():
                level[goal] = level.get(goal, 0) + many * keepers(board, orbit) * stands
        found.append(level)
    return found


def ways_home(board, moves):
    """A list of dicts: behind so many STEPS, from each ORBIT to how the rest may FIT from each of its STANDS."""
    found = [{orbit: 1 for orbit in board.orbits}]
    for goals in reversed(moves):
        level = {}
        for orbit in board.orbits:
            many = sum([stands * found[-1].get(goal, 0) for goal, stands in goals[orbit].items()])
            if many > 0:
                level[orbit] = many * keepers(board, orbit)
        found.append(level)
    return found[::-1]


def turning_on(board, step, stand, level):
    """The first TURNING ahead of a STEP behind which a STAND lies, with what was heard, in an ORBIT of the level."""
    for turning in board.table[1]:
        moved = turned(turning, stand)
        later = behind_step(board.table, step, moved)
        if is_heard(board, step, moved, later) and board.leasts[later] in level:
            return turning
    return None


def first_by(board, hearing, lot):
    """The first of the RUNS of a good HEARING that FIT and begin in a LOT, None without one."""
    levels = ways_home(board, moves_of(board, hearing))
    stand = next((orbit for orbit in lot if orbit in levels[0]), None)
    if stand is None:
        return None
    start = stand
    turns = []
    for number, step in enumerate(hearing):
        turns.append(turning_on(board, step, stand, levels[number + 1]))
        stand = behind_step(board.table, step, turned(turns[-1], stand))
    return start, tuple(turns)


def ends_by(board, hearing):
    """A dict from each STAND to how many RUNS of a good HEARING FIT and end there."""
    if not hearing:
        return {stand: 1 for orbit in board.whole for stand in board.orbits[orbit]}
    found = {}
    step = hearing[-1]
    for orbit, many in ways_on(board, moves_of(board, hearing[:-1]))[-1].items():
        for stand in board.orbits[orbit]:
            later = behind_step(board.table, step, stand)
            if is_heard(board, step, stand, later):
                found[later] = found.get(later, 0) + many * keepers(board, orbit)
    return found


def is_run_of(board, hearing, thing):
    """Whether a thing is a RUN of a good HEARING."""
    try:
        need_run(board.table, thing, hearing)
    except BadRun:
        return False
    return board.leasts[thing[0]] in board.numbers


def step_along(turning, step):
    """A good STEP TURNED ALONG by a TURNING."""
    if step[0] == "blind":
        return "blind", turned(turning, step[1]), step[2]
    _, pattern, felt, setting, bell = step
    goal = pattern_turned(turning, pattern)
    places = {turning[seat]: place for place, seat in enumerate(pattern)}
    led = [tuple([faces[places[seat]] for seat in goal]) for faces in (felt, setting)]
    return "felt", goal, led[0], led[1], bell


def heard_by(table, wish, hearing):
    """The BOARD where a good HEARING is told, or the first refusal that is due."""
    need_wish(table, wish)
    need_hearing_of(table, hearing)
    return Board(table, wish)


def is_hearing(table, wish, hearing):
    """Whether a thing is a HEARING."""
    try:
        need_hearing(table, wish, hearing)
    except BadHearing:
        return False
    return True


def need_hearing(table, wish, hearing):
    """None, or BadHearing of what is no HEARING."""
    need_wish(table, wish)
    need_hearing_of(table, hearing)


def is_run(table, wish, hearing, thing):
    """Whether a thing is a RUN of the HEARING."""
    return is_run_of(heard_by(table, wish, hearing), hearing, thing)


def fits(table, wish, hearing, thing):
    """Whether a thing is a RUN of the HEARING that FITS."""
    board = heard_by(table, wish, hearing)
    if not is_run_of(board, hearing, thing):
        return False
    stand, turns = thing
    for turning, step in zip(turns, hearing):
        moved = turned(turning, stand)
        stand = behind_step(table, step, moved)
        if not is_heard(board, step, moved, stand):
            return False
    return True


def runs(table, wish, hearing):
    """How many RUNS of the HEARING FIT."""
    return sum(ends_by(heard_by(table, wish, hearing), hearing).values())


def first_run(table, wish, hearing):
    """The first of the RUNS that FIT, None without one."""
    board = heard_by(table, wish, hearing)
    return first_by(board, hearing, board.whole)


def begins(table, wish, hearing):
    """A list of pairs of an ORBIT and how many RUNS that FIT begin there, rising."""
    return through(table, wish, hearing, 0)


def ends(table, wish, hearing):
    """A list of pairs of a STAND and how many RUNS that FIT end there, rising."""
    return sorted(ends_by(heard_by(table, wish, hearing), hearing).items())


def through(table, wish, hearing, many):
    """A list of pairs of an ORBIT and how many RUNS that FIT lie there behind so many STEPS, rising."""
    board = heard_by(table, wish, hearing)
    if not is_among(many, 0, len(hearing)):
        raise OutOfPlace("there are no so many steps")
    moves = moves_of(board, hearing)
    so_far = ways_on(board, moves[:many])[-1]
    home = ways_home(board, moves[many:])[0]
    return sorted([(orbit, so_far[orbit] * home[orbit]) for orbit in so_far if orbit in home])


def sure_faces(table, wish, hearing):
    """For each seat the face that all ENDS have there, None where they have several."""
    stands = list(ends_by(heard_by(table, wish, hearing), hearing))
    if not stands:
        raise Never("this can't have been heard")
    return tuple([faces[0] if len(set(faces)) == 1 else None for faces in zip(*stands)])


def turned_along(table, wish, hearing, turns):
    """The HEARING, each STEP TURNED ALONG by a TURNING of its own."""
    need_hearing(table, wish, hearing)
    if not is_tuple_of(turns, len(hearing), len(hearing)):
        raise BadRun("turns")
    for number, turning in enumerate(turns):
        if not is_turning_of(table, turning):
            raise BadRun(number)
    return tuple([step_along(turning, step) for turning, step in zip(turns, hearing)])


def hearing_back(table, wish, hearing):
    """The HEARING TOLD BACK."""
    need_hearing(table, wish, hearing)
    if any(step[0] == "felt" or step[-1] for step in hearing):
        raise OutOfPlace("a step is felt, or the bell rings")
    row = tuple([step[1] for step in hearing])
    return tuple([("blind", deed, False) for deed in told_back(table, row)])
