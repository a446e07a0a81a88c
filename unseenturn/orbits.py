"""ORBITS: what TURNINGS make of a STAND, and by how many TURNINGS a DEED brings one to another."""

from unseenturn.tables import is_stand_of, need_stand, need_table, plus, stands_of, turned


def least_by(turnings, stand):
    """The LEAST STAND of a good STAND's ORBIT."""
    return min([turned(turning, stand) for turning in turnings])


def leasts_of(table):
    """A dict from each STAND of a good TABLE to the LEAST STAND of its ORBIT."""
    found = {}
    for stand in stands_of(table):
        # The first STAND of an ORBIT that is met is its least one.
        if stand not in found:
            for turning in table[1]:
                found[turned(turning, stand)] = stand
    return found


def wrong_least(table, things, barred):
    """The number of the first thing that is no LEAST STAND, is barred, or isn't above the one ahead; else how many."""
    for number, thing in enumerate(things):
        if not is_stand_of(table, thing) or thing in barred or thing != least_by(table[1], thing):
            return number
        if number > 0 and thing <= things[number - 1]:
            return number
    return len(things)


def least_of(table, stand):
    """The LEAST STAND of the STAND's ORBIT."""
    need_stand(table, stand)
    return least_by(table[1], stand)


def orbit_of(table, stand):
    """The STANDS of the STAND's ORBIT, rising."""
    need_stand(table, stand)
    return tuple(sorted({turned(turning, stand) for turning in table[1]}))


def keeping(table, stand):
    """The TURNINGS that KEEP the STAND, rising."""
    need_stand(table, stand)
    return tuple([turning for turning in table[1] if turned(turning, stand) == stand])


def ways(table, stand, deed):
    """The WAYS of the STAND by the DEED: pairs of a LEAST STAND and by how many TURNINGS it comes there, rising."""
    need_stand(table, stand)
    need_stand(table, deed)
    many = {}
    for turning in table[1]:
        least = least_by(table[1], plus(table[0], turned(turning, stand), deed))
        many[least] = many.get(least, 0) + 1
    return tuple(sorted(many.items()))


def orbits(table):
    """All LEAST STANDS, rising."""
    need_table(table)
    leasts = leasts_of(table)
    return tuple([stand for stand in stands_of(table) if leasts[stand] == stand])
