"""PARTINGS of seats into BLOCKS, and which of them TURNINGS leave KEPT."""

from unseenturn.errors import OutOfPlace
from unseenturn.needs import need_few_seats, need_seat, need_seats, need_turnings
from unseenturn.tables import calm_of, is_among, is_rising

MOST_PARTED = 6


def is_block(many, thing):
    """Whether a thing is a rising tuple of some of so many seats, of one at least."""
    if not isinstance(thing, tuple) or not thing:
        return False
    return all(is_among(seat, 0, many - 1) for seat in thing) and is_rising(thing)


def is_parting_of(many, thing):
    """Whether a thing is a PARTING of so many seats."""
    if not isinstance(thing, tuple) or not all(is_block(many, block) for block in thing):
        return False
    return is_rising(thing) and sorted([seat for block in thing for seat in block]) == list(range(many))


def homes_of(parting):
    """A dict from each seat to the number of its BLOCK."""
    return {seat: number for number, block in enumerate(parting) for seat in block}


def is_brought_whole(homes, block, turning):
    """Whether the TURNING brings all of the BLOCK into one BLOCK."""
    return all(homes[turning[seat]] == homes[turning[block[0]]] for seat in block)


def is_kept_by(turnings, parting):
    """Whether a good PARTING is KEPT."""
    homes = homes_of(parting)
    return all(is_brought_whole(homes, block, turning) for turning in turnings for block in parting)


def is_kept_parting(turnings, thing):
    """Whether a thing is a PARTING that good TURNINGS KEEP."""
    return is_parting_of(len(turnings[0]), thing) and is_kept_by(turnings, thing)


def need_parting(many, thing):
    """None, or OutOfPlace of what is no PARTING of so many seats."""
    if not is_parting_of(many, thing):
        raise OutOfPlace("no parting of these seats")


def need_kept(turnings, thing):
    """None, or OutOfPlace of what is no PARTING that good TURNINGS KEEP."""
    if not is_kept_parting(turnings, thing):
        raise OutOfPlace("no parting that these turnings keep")


def blocks_of(names):
    """The PARTING in which those seats are in one BLOCK that have like names."""
    found = {}
    for seat, name in enumerate(names):
        found.setdefault(name, []).append(seat)
    # By their first seats they came in, and so they rise.
    return tuple([tuple(block) for block in found.values()])


def joined_by(many, groups):
    """The PARTING of so many seats into what steps within these groups lead together."""
    names = list(range(many))
    for group in groups:
        for seat in group:
            old, new = names[seat], names[group[0]]
            names = [new if name == old else name for name in names]
    return blocks_of(names)


def partings_of(many):
    """A list of all PARTINGS of so many seats."""
    found = [()]
    for _ in range(many):
        # A seat has a name that was given ahead of it, or the next one that wasn't: so no parting comes twice.
        found = [names + (name,) for names in found for name in range(len(set(names)) + 1)]
    return [blocks_of(names) for names in found]


def is_parting(seats, thing):
    """Whether a thing is a PARTING of so many seats."""
    need_seats(seats)
    return is_parting_of(seats, thing)


def is_kept(turnings, thing):
    """Whether a thing is a PARTING that the TURNINGS KEEP."""
    need_turnings(turnings)
    return is_kept_parting(turnings, thing)


def kept_with(turnings, seat, goal):
    """The least KEPT PARTING with both seats in one BLOCK."""
    need_turnings(turnings)
    many = len(turnings[0])
    need_seat(many, seat)
    need_seat(many, goal)
    return joined_by(many, [(turning[seat], turning[goal]) for turning in turnings])


def joined_of(seats, first, later):
    """The two PARTINGS JOINED."""
    need_seats(seats)
    need_parting(seats, first)
    need_parting(seats, later)
    return joined_by(seats, first + later)


def all_kept(turnings):
    """A list of all KEPT PARTINGS, rising."""
    need_turnings(turnings)
    need_few_seats(len(turnings[0]), MOST_PARTED)
    return sorted([parting for parting in partings_of(len(turnings[0])) if is_kept_by(turnings, parting)])


def brought_among(homes, parting, turning):
    """How the TURNING brings BLOCKS to BLOCKS."""
    return tuple([homes[turning[block[0]]] for block in parting])


def among(turnings, parting):
    """The TURNINGS AMONG the BLOCKS."""
    need_turnings(turnings)
    need_kept(turnings, parting)
    homes = homes_of(parting)
    return tuple(sorted({brought_among(homes, parting, turning) for turning in turnings}))


def within(turnings, parting):
    """The TURNINGS WITHIN the BLOCKS."""
    need_turnings(turnings)
    need_kept(turnings, parting)
    homes = homes_of(parting)
    calm = calm_of(len(parting))
    return tuple([turning for turning in turnings if brought_among(homes, parting, turning) == calm])
