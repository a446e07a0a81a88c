"""TURNINGS, each for itself."""

from math import lcm

from unseenturn.errors import BadTable
from unseenturn.needs import need_any_order, need_order_of, need_turnings, need_whole
from unseenturn.tables import calm_of, then_of


def back_of(turning):
    """The TURNING that undoes this one."""
    found = list(turning)
    for seat, goal in enumerate(turning):
        found[goal] = seat
    return tuple(found)


def round_from(turning, seat):
    """The ROUND that begins with this seat."""
    found = [seat]
    while turning[found[-1]] != seat:
        found.append(turning[found[-1]])
    return tuple(found)


def rounds_of(turning):
    """The ROUNDS, rising."""
    found = []
    gone = set()
    for seat in range(len(turning)):
        if seat not in gone:
            found.append(round_from(turning, seat))
            for passed in found[-1]:
                gone.add(passed)
    return tuple(found)


def are_turnings(thing):
    """Whether a thing is what a TABLE has for TURNINGS."""
    try:
        need_turnings(thing)
    except BadTable:
        return False
    return True


def then(first, later):
    """FIRST THEN LATER."""
    need_any_order(first)
    need_order_of(later, len(first))
    return then_of(first, later)


def back(turning):
    """The TURNING that with this one is CALM."""
    need_any_order(turning)
    return back_of(turning)


def calm_behind(turning):
    """By which least count, from 1 on, a good TURNING is CALM."""
    found = 1
    for places in rounds_of(turning):
        found = lcm(found, len(places))
    return found


def often(turning, count):
    """The TURNING so OFTEN, below 0 its BACK."""
    need_any_order(turning)
    need_whole(count)
    found = calm_of(len(turning))
    # A great count does what its rest does, one below 0 as well.
    for _ in range(count % calm_behind(turning)):
        found = then_of(found, turning)
    return found


def rounds(turning):
    """The ROUNDS, rising."""
    need_any_order(turning)
    return rounds_of(turning)


def how_often(turning):
    """The least count, from 1 on, by which the TURNING is CALM."""
    need_any_order(turning)
    return calm_behind(turning)
