"""What goes over from table to table: faces divided, seats blocked, fewer turnings, tables beside one another."""

from unseenturn.blocks import brought_among, homes_of, is_kept_parting, need_kept
from unseenturn.errors import OutOfPlace, TooGreat
from unseenturn.making import set_beside
from unseenturn.orbits import least_by, leasts_of
from unseenturn.tables import MOST_STANDS, is_among, is_table, need_row, need_stand, need_table, power
from unseenturn.wishes import need_wish, wished_of


def need_divisor(table, thing):
    """None, or OutOfPlace of what is no DIVISOR of the TABLE."""
    need_table(table)
    if not is_among(thing, 2, table[0] - 1) or table[0] % thing > 0:
        raise OutOfPlace("no divisor of the faces")


def need_blocks(table, thing):
    """None, or OutOfPlace of what are no BLOCKS of the TABLE."""
    need_table(table)
    need_kept(table[1], thing)


def divided_by(divisor, stand):
    """A STAND DIVIDED."""
    return tuple([face % divisor for face in stand])


def blocked_by(table, blocks, stand):
    """A STAND of a good TABLE BLOCKED."""
    return tuple([sum([stand[seat] for seat in block]) % table[0] for block in blocks])


def blocked_turnings(table, blocks):
    """How the TURNINGS of a good TABLE bring BLOCKS to BLOCKS, rising."""
    homes = homes_of(blocks)
    return tuple(sorted({brought_among(homes, blocks, turning) for turning in table[1]}))


def image_by(turnings, stands):
    """The WISH, by TURNINGS, of the ORBITS of these STANDS."""
    return tuple(sorted({least_by(turnings, stand) for stand in stands}))


def is_part_of_table(table, thing):
    """Whether a thing is a PART of a good TABLE."""
    return is_table(thing) and thing[0] == table[0] and all(turning in table[1] for turning in thing[1])


def divisors(table):
    """All DIVISORS, rising."""
    need_table(table)
    return tuple([number for number in range(2, table[0]) if table[0] % number == 0])


def divided(table, divisor):
    """The TABLE DIVIDED."""
    need_divisor(table, divisor)
    return divisor, table[1]


def divided_stand(table, divisor, stand):
    """The STAND DIVIDED."""
    need_divisor(table, divisor)
    need_stand(table, stand)
    return divided_by(divisor, stand)


def divided_row(table, divisor, row):
    """The ROW, its DEEDS DIVIDED."""
    need_divisor(table, divisor)
    need_row(table, row)
    return tuple([divided_by(divisor, deed) for deed in row])


def divided_wish(table, divisor, wish):
    """The IMAGE of the WISH at the TABLE DIVIDED."""
    need_divisor(table, divisor)
    need_wish(table, wish)
    # What is turned is divided to what is turned: LEAST STANDS do for their ORBITS.
    return image_by(table[1], [divided_by(divisor, stand) for stand in wish])


def is_blocks(table, blocks):
    """Whether a thing is a tuple of BLOCKS of the TABLE."""
    need_table(table)
    return is_kept_parting(table[1], blocks)


def blocked(table, blocks):
    """The TABLE BLOCKED."""
    need_blocks(table, blocks)
    return table[0], blocked_turnings(table, blocks)


def blocked_stand(table, blocks, stand):
    """The STAND BLOCKED."""
    need_blocks(table, blocks)
    need_stand(table, stand)
    return blocked_by(table, blocks, stand)


def blocked_row(table, blocks, row):
    """The ROW, its DEEDS BLOCKED."""
    need_blocks(table, blocks)
    need_row(table, row)
    return tuple([blocked_by(table, blocks, deed) for deed in row])


def blocked_wish(table, blocks, wish):
    """The IMAGE of the WISH at the TABLE BLOCKED."""
    need_blocks(table, blocks)
    need_wish(table, wish)
    return image_by(blocked_turnings(table, blocks), [blocked_by(table, blocks, stand) for stand in wish])


def is_part(table, part):
    """Whether a thing is a PART of the TABLE."""
    need_table(table)
    return is_part_of_table(table, part)


def part_wish(table, part, wish):
    """The WISH by a PART of the TABLE."""
    need_table(table)
    if not is_part_of_table(table, part):
        raise OutOfPlace("no part of the table")
    need_wish(table, wish)
    leasts = leasts_of(part)
    return tuple(sorted({leasts[stand] for stand in wished_of(table, wish)}))


def beside(table, other):
    """Both TABLES BESIDE one another."""
    need_table(table)
    need_table(other)
    if table[0] != other[0]:
        raise OutOfPlace("unlike faces")
    found = table[0], set_beside(table[1], other[1])
    if power(table[0], len(found[1][0])) > MOST_STANDS:
        raise TooGreat("too many stands")
    return found


def beside_wish(table, other, wish, far_wish):
    """The WISH and the far one beside one another."""
    beside(table, other)
    need_wish(table, wish)
    need_wish(other, far_wish)
    # Either is turned for itself: the least of both are the least ones side by side.
    return tuple([stand + far for stand in wish for far in far_wish])
