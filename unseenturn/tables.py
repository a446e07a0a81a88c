"""TABLES, and what belongs to one: STANDS, TURNINGS, ROWS and RUNS."""

from unseenturn.errors import BadRow, BadRun, BadStand, BadTable, BadTurning

MOST_SEATS = 8
MOST_FACES = 9
MOST_STANDS = 729
MOST_TURNINGS = 128


def power(base, times):
    """base, so many times multiplied."""
    found = 1
    for _ in range(times):
        found = found * base
    return found


def is_rising(things):
    """Whether each thing is above the one ahead of it."""
    return all(things[at] < things[at + 1] for at in range(len(things) - 1))


def calm_of(many):
    """The CALM TURNING of so many seats."""
    return tuple(range(many))


def then_of(first, later):
    """first THEN later."""
    return tuple([later[seat] for seat in first])


def spread_by(many, makers, most):
    """A list of all that is done by the makers one behind another, broken off behind more than most."""
    found = [calm_of(many)]
    seen = set(found)
    at = 0
    while at < len(found) <= most:
        for maker in makers:
            later = then_of(found[at], maker)
            if later not in seen:
                seen.add(later)
                found.append(later)
        at += 1
    return found


def grown_by(many, turnings, most):
    """A pair of lists: few of these TURNINGS, and all that they make, broken off behind more than most."""
    found = [calm_of(many)]
    makers = []
    for turning in turnings:
        # What earlier ones make already is no maker: so few makers are left, and few products to look at.
        if len(found) <= most and turning not in found:
            makers.append(turning)
            found = spread_by(many, makers, most)
    return makers, found


def plus(faces, stand, other):
    """Two STANDS of so many FACES added."""
    return tuple([(face + more) % faces for face, more in zip(stand, other)])


def minus(faces, stand, other):
    """The second STAND taken from the first one."""
    return tuple([(face - more) % faces for face, more in zip(stand, other)])


def is_whole(thing):
    """Whether a thing is a whole number; True and False are none."""
    return isinstance(thing, int) and not isinstance(thing, bool)


def is_among(thing, least, most):
    """Whether a thing is a whole number from least to most."""
    return is_whole(thing) and least <= thing <= most


def is_tuple_of(thing, least, most):
    """Whether a thing is a tuple of least to most things."""
    return isinstance(thing, tuple) and least <= len(thing) <= most


def wrong_seat(things):
    """The number of the first thing that can't be there in a TURNING, how many there are if all can."""
    for number, seat in enumerate(things):
        if not is_among(seat, 0, len(things) - 1) or seat in things[:number]:
            return number
    return len(things)


def wrong_face(faces, things):
    """The number of the first thing that is no face, how many there are if all are faces."""
    for number, face in enumerate(things):
        if not is_among(face, 0, faces - 1):
            return number
    return len(things)


def is_order(thing):
    """Whether a thing is a TURNING of 1 to 8 seats."""
    return is_tuple_of(thing, 1, MOST_SEATS) and wrong_seat(thing) == len(thing)


def are_rising_orders(thing):
    """Whether a thing is a rising tuple of 1 to 128 TURNINGS of as many seats."""
    if not is_tuple_of(thing, 1, MOST_TURNINGS) or not is_order(thing[0]):
        return False
    many = len(thing[0])
    return all(is_order(turning) and len(turning) == many for turning in thing) and is_rising(thing)


def are_closed(turnings):
    """Whether good TURNINGS have with any two the one behind the other."""
    _, found = grown_by(len(turnings[0]), turnings, len(turnings))
    return len(found) == len(turnings)


def need_table(thing):
    """None, or BadTable of what is no TABLE."""
    if not is_tuple_of(thing, 2, 2):
        raise BadTable(None)
    faces, turnings = thing
    if not is_among(faces, 2, MOST_FACES):
        raise BadTable("faces")
    if not are_rising_orders(turnings):
        raise BadTable("turnings")
    if power(faces, len(turnings[0])) > MOST_STANDS:
        raise BadTable("stands")
    if not are_closed(turnings):
        raise BadTable("closed")


def is_table(thing):
    """Whether a thing is a TABLE."""
    try:
        need_table(thing)
    except BadTable:
        return False
    return True


def seats_of(table):
    """How many seats a good TABLE has."""
    return len(table[1][0])


def stands_of(table):
    """A list of all STANDS of a good TABLE, rising."""
    found = [()]
    for _ in range(seats_of(table)):
        found = [stand + (face,) for stand in found for face in range(table[0])]
    return found


def is_stand_of(table, thing):
    """Whether a thing is a STAND of a good TABLE."""
    many = seats_of(table)
    return is_tuple_of(thing, many, many) and wrong_face(table[0], thing) == many


def is_turning_of(table, thing):
    """Whether a thing is a TURNING of a good TABLE."""
    # Asked is its form, too: True is like 1 where tuples are compared.
    return is_order(thing) and thing in table[1]


def seats(table):
    """How many SEATS a TABLE has."""
    need_table(table)
    return seats_of(table)


def stands(table):
    """All STANDS, rising."""
    need_table(table)
    return tuple(stands_of(table))


def is_stand(table, thing):
    """Whether a thing is a STAND of a TABLE."""
    need_table(table)
    return is_stand_of(table, thing)


def is_turning(table, thing):
    """Whether a thing is a TURNING of a TABLE."""
    need_table(table)
    return is_turning_of(table, thing)


def need_stand(table, thing):
    """None, or BadStand of what is no STAND of the TABLE."""
    need_table(table)
    many = seats_of(table)
    if not is_tuple_of(thing, many, many):
        raise BadStand(None)
    number = wrong_face(table[0], thing)
    if number < many:
        raise BadStand(number)


def need_turning(table, thing):
    """None, or BadTurning of what is no TURNING of the TABLE."""
    need_table(table)
    many = seats_of(table)
    if not is_tuple_of(thing, many, many):
        raise BadTurning(None)
    number = wrong_seat(thing)
    if number < many or thing not in table[1]:
        raise BadTurning(number)


def need_row(table, row):
    """None, or BadRow of what is no ROW of the TABLE."""
    need_table(table)
    if not isinstance(row, tuple):
        raise BadRow(None)
    for number, deed in enumerate(row):
        if not is_stand_of(table, deed):
            raise BadRow(number)


def need_run(table, run, row):
    """None, or BadRun of what is no RUN of a good ROW of a good TABLE."""
    if not is_tuple_of(run, 2, 2):
        raise BadRun(None)
    stand, turns = run
    if not is_stand_of(table, stand):
        raise BadRun("stand")
    if not is_tuple_of(turns, len(row), len(row)):
        raise BadRun("turns")
    for number, turning in enumerate(turns):
        if not is_turning_of(table, turning):
            raise BadRun(number)


def turned(turning, stand):
    """A good STAND TURNED by a good TURNING."""
    found = list(stand)
    for seat, goal in enumerate(turning):
        found[goal] = stand[seat]
    return tuple(found)


def added(table, stand, other):
    """Two good STANDS ADDED."""
    need_table(table)
    return plus(table[0], stand, other)


def less(table, stand, other):
    """A good STAND, another one taken from it."""
    need_table(table)
    return minus(table[0], stand, other)


def nought(table):
    """NOUGHTS: the STAND with 0 at each seat."""
    need_table(table)
    return (0,) * seats_of(table)


def opposite(table, stand):
    """The OPPOSITE of a good STAND."""
    need_table(table)
    return minus(table[0], (0,) * seats_of(table), stand)


def walked(table, run, row):
    """A list of the beginning of a RUN and the STANDS behind each DEED of the ROW."""
    need_row(table, row)
    need_run(table, run, row)
    stand, turns = run
    found = [stand]
    for turning, deed in zip(turns, row):
        found.append(plus(table[0], turned(turning, found[-1]), deed))
    return found
