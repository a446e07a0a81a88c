"""WISHES: at which STANDS the bell rings, and which of them are EVEN."""

from unseenturn.errors import BadStand, BadWish
from unseenturn.orbits import least_by, leasts_of, wrong_least
from unseenturn.tables import is_stand_of, minus, need_stand, need_table, plus, seats_of, turned


def sums_of(faces, many, makers):
    """A list of all STANDS of so many seats that the makers make by sums, NOUGHTS first."""
    found = [(0,) * many]
    seen = set(found)
    for maker in makers:
        ahead = found
        step = maker
        # A maker so often, with all that was there ahead, is new as a whole or not at all.
        while step not in seen:
            later = [plus(faces, stand, step) for stand in ahead]
            for stand in later:
                seen.add(stand)
            found = found + later
            step = plus(faces, step, maker)
    return found


def wished_of(table, wish):
    """A list of all STANDS that are WISHED by a good WISH, rising."""
    return sorted({turned(turning, stand) for stand in wish for turning in table[1]})


def heart_of(table, wish):
    """A list of what WISHED STANDS are less the least one of them, by a good WISH."""
    told = wished_of(table, wish)
    return [minus(table[0], stand, told[0]) for stand in told]


def is_even_by(table, wish):
    """Whether a good WISH of a good TABLE is EVEN."""
    # EVEN are just those whose differences from one of them make nothing else by sums.
    heart = heart_of(table, wish)
    return len(sums_of(table[0], seats_of(table), heart)) == len(heart)


def need_wish(table, wish):
    """None, or BadWish of what is no WISH of the TABLE."""
    need_table(table)
    if not isinstance(wish, tuple) or not wish:
        raise BadWish(None)
    number = wrong_least(table, wish, ())
    if number < len(wish):
        raise BadWish(number)


def is_wish(table, thing):
    """Whether a thing is a WISH of the TABLE."""
    try:
        need_wish(table, thing)
    except BadWish:
        return False
    return True


def need_stands(table, stands):
    """None, or BadStand of what is no tuple of one STAND of the TABLE or more."""
    need_table(table)
    if not isinstance(stands, tuple) or not stands:
        raise BadStand(None)
    for number, stand in enumerate(stands):
        if not is_stand_of(table, stand):
            raise BadStand(number)


def noughts(table):
    """The WISH of NOUGHTS alone."""
    need_table(table)
    return ((0,) * seats_of(table),)


def alike(table):
    """The WISH of all STANDS of one face alone."""
    need_table(table)
    return tuple([(face,) * seats_of(table) for face in range(table[0])])


def wish_by(table, stands):
    """The WISH of the ORBITS of the STANDS."""
    need_stands(table, stands)
    return tuple(sorted({least_by(table[1], stand) for stand in stands}))


def even_by(table, stands):
    """The least EVEN WISH by which the STANDS are WISHED."""
    need_stands(table, stands)
    faces, turnings = table
    first = stands[0]
    makers = [minus(faces, turned(turning, stand), first) for stand in stands for turning in turnings]
    heart = sums_of(faces, len(first), makers)
    leasts = leasts_of(table)
    return tuple(sorted({leasts[plus(faces, first, stand)] for stand in heart}))


def wished(table, wish):
    """All WISHED STANDS, rising."""
    need_wish(table, wish)
    return tuple(wished_of(table, wish))


def is_wished(table, wish, stand):
    """Whether the STAND is WISHED."""
    need_wish(table, wish)
    need_stand(table, stand)
    return least_by(table[1], stand) in wish


def is_even(table, wish):
    """Whether the WISH is EVEN."""
    need_wish(table, wish)
    return is_even_by(table, wish)
