"""TURNINGS whose seats are named otherwise."""

from itertools import permutations

from unseenturn.needs import need_few_seats, need_order_of, need_turnings
from unseenturn.tables import grown_by, then_of
from unseenturn.turnings import back_of

MOST_NAMED = 6


def renamed_by(turnings, names):
    """A list of the TURNINGS, each RENAMED."""
    undone = back_of(names)
    return [then_of(then_of(undone, turning), names) for turning in turnings]


def is_named_into(makers, goal, names):
    """Whether each of the makers is RENAMED to one of the goal's."""
    return all(turning in goal for turning in renamed_by(makers, names))


def makers_of(turnings):
    """A list of few of the TURNINGS that make all of them."""
    # Makers alone are looked at by the names: what they are renamed to makes what all are renamed to.
    makers, _ = grown_by(len(turnings[0]), turnings, len(turnings))
    return makers


def renamed(turnings, names):
    """The TURNINGS RENAMED by the NAMES."""
    need_turnings(turnings)
    need_order_of(names, len(turnings[0]))
    return tuple(sorted(renamed_by(turnings, names)))


def renaming(first, later):
    """The least NAMES that make the one the other, None where they aren't KIN."""
    need_turnings(first)
    need_turnings(later)
    many = len(first[0])
    need_few_seats(many, MOST_NAMED)
    need_few_seats(len(later[0]), MOST_NAMED)
    if len(later[0]) != many or len(later) != len(first):
        return None
    makers = makers_of(first)
    for names in permutations(range(many)):
        if is_named_into(makers, later, names):
            return names
    return None


def many_names(turnings):
    """How many NAMES make the TURNINGS themselves."""
    need_turnings(turnings)
    many = len(turnings[0])
    need_few_seats(many, MOST_NAMED)
    makers = makers_of(turnings)
    found = 0
    for names in permutations(range(many)):
        if is_named_into(makers, turnings, names):
            found += 1
    return found
