"""TURNINGS that are MADE by others, and such as are put together."""

from unseenturn.errors import BadTurning
from unseenturn.needs import need_few_seats, need_few_turnings, need_order_of, need_seats, need_turnings
from unseenturn.tables import MOST_SEATS, MOST_TURNINGS, grown_by, power


def made(seats, turnings):
    """The fewest TURNINGS of so many seats that have the told ones."""
    need_seats(seats)
    if not isinstance(turnings, (tuple, list)):
        raise BadTurning(None)
    for turning in turnings:
        need_order_of(turning, seats)
    _, found = grown_by(seats, turnings, MOST_TURNINGS)
    need_few_turnings(len(found))
    return tuple(sorted(found))


def shifts_of(many):
    """All TURNINGS that bring each seat equally far along a ring, rising."""
    return [tuple([(seat + shift) % many for seat in range(many)]) for shift in range(many)]


def flips_of(many):
    """All TURNINGS that bring each seat and where it comes to one sum, along a ring."""
    return [tuple([(total - seat) % many for seat in range(many)]) for total in range(many)]


def ring(seats):
    """The RING of so many seats."""
    need_seats(seats)
    return tuple(shifts_of(seats))


def mirrored(seats):
    """The RING, MIRRORED."""
    need_seats(seats)
    # On one or two seats each flip is a shift, too.
    return tuple(sorted(set(shifts_of(seats) + flips_of(seats))))


def set_beside(first, later):
    """Both good TURNINGS SIDE BY SIDE, or TooGreat."""
    ahead = len(first[0])
    need_few_seats(ahead + len(later[0]), MOST_SEATS)
    need_few_turnings(len(first) * len(later))
    moved = [tuple([ahead + seat for seat in turning]) for turning in later]
    return tuple([turning + other for turning in first for other in moved])


def side_by_side(first, later):
    """Both SIDE BY SIDE, the later one's seats behind the first one's."""
    need_turnings(first)
    need_turnings(later)
    return set_beside(first, later)


def choices_of(things, many):
    """All tuples of so many of these things."""
    found = [()]
    for _ in range(many):
        found = [row + (thing,) for row in found for thing in things]
    return found


def nested_by(rows, turning):
    """Block by block its own TURNING, then the blocks put on blocks by one TURNING."""
    wide = len(rows[0])
    return tuple([turning[block] * wide + seat for block, row in enumerate(rows) for seat in row])


def nested(inner, outer):
    """Both NESTED: blocks of the inner one's seats, as many as the outer one's."""
    need_turnings(inner)
    need_turnings(outer)
    blocks = len(outer[0])
    need_few_seats(len(inner[0]) * blocks, MOST_SEATS)
    need_few_turnings(power(len(inner), blocks) * len(outer))
    found = [nested_by(rows, turning) for rows in choices_of(inner, blocks) for turning in outer]
    return tuple(sorted(found))
