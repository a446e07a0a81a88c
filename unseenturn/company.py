"""Which seats TURNINGS bring to one another, PARTS of TURNINGS, and how many ORBITS there are."""

from unseenturn.errors import OutOfPlace
from unseenturn.needs import need_faces, need_seat, need_turnings
from unseenturn.tables import power, then_of
from unseenturn.turnings import are_turnings, rounds_of


def reached_from(turnings, seat):
    """The seats to which the seat's thing is brought, rising."""
    return tuple(sorted({turning[seat] for turning in turnings}))


def together(turnings):
    """The seats that are TOGETHER, rising."""
    need_turnings(turnings)
    return tuple(sorted({reached_from(turnings, seat) for seat in range(len(turnings[0]))}))


def bringing_of(turnings, seat, goal):
    """Those of the TURNINGS that bring a seat to a seat."""
    return tuple([turning for turning in turnings if turning[seat] == goal])


def bringing(turnings, seat, goal):
    """The TURNINGS BRINGING the seat to the goal, rising."""
    need_turnings(turnings)
    need_seat(len(turnings[0]), seat)
    need_seat(len(turnings[0]), goal)
    return bringing_of(turnings, seat, goal)


def still(turnings, seat):
    """The TURNINGS STILL at the seat."""
    need_turnings(turnings)
    need_seat(len(turnings[0]), seat)
    return bringing_of(turnings, seat, seat)


def is_part_of(turnings, thing):
    """Whether a thing is a PART of good TURNINGS."""
    return are_turnings(thing) and all(turning in turnings for turning in thing)


def are_part(turnings, thing):
    """Whether a thing is a PART of the TURNINGS."""
    need_turnings(turnings)
    return is_part_of(turnings, thing)


def share_of(part, turning):
    """The SHARE of the PART for the TURNING, rising."""
    return tuple(sorted([then_of(one, turning) for one in part]))


def shares(turnings, part):
    """A list of all SHARES of the PART, rising."""
    need_turnings(turnings)
    if not is_part_of(turnings, part):
        raise OutOfPlace("no part of these turnings")
    return sorted({share_of(part, turning) for turning in turnings})


def many_orbits(faces, turnings):
    """How many ORBITS of STANDS there are."""
    need_faces(faces)
    need_turnings(turnings)
    # So many stands each turning leaves, all put together; each orbit is counted by as many as there are turnings.
    left = sum([power(faces, len(rounds_of(turning))) for turning in turnings])
    return left // len(turnings)
