"""Stairs: by how many of them an EVEN WISH is reached, and which STANDS are OUTSIDE."""

from unseenturn.errors import NotEven
from unseenturn.lots import need_lot_of
from unseenturn.tables import grown_by, minus, need_stand, need_table, plus, stands_of, turned
from unseenturn.wishes import heart_of, is_even_by, need_wish, wished_of


class Stairs:
    """W(0), W(1), .. TOP of a good EVEN WISH of a good TABLE."""

    def __init__(self, table, wish):
        self.table = table
        self.first = wished_of(table, wish)[0]
        self.ranks = ranks_of(table, heart_of(table, wish))

    def step_at(self, stand):
        """A STAND's STEP, None of one OUTSIDE."""
        return self.ranks.get(minus(self.table[0], stand, self.first))

    def level(self, step):
        """A list of what W(step) has, rising."""
        return sorted([stand for stand, rank in self.ranks.items() if rank <= step])

    def highest(self):
        """The step of TOP."""
        return max(self.ranks.values())


def ranks_of(table, heart):
    """A dict from each STAND of TOP to the least I for which W(I) has it."""
    faces, turnings = table
    # TURNINGS by which all others are made suffice.
    makers, _ = grown_by(len(turnings[0]), turnings, len(turnings))
    moves = {stand: [minus(faces, turned(maker, stand), stand) for maker in makers] for stand in stands_of(table)}
    found = {stand: 0 for stand in heart}
    step = 0
    more = heart
    while more:
        step += 1
        more = [stand for stand in moves if stand not in found and all(move in found for move in moves[stand])]
        for later in more:
            found[later] = step
    return found


def classes_by(faces, stands, group):
    """A dict from each of the STANDS, rising, to the least STAND of its class by a group of STANDS."""
    found = {}
    for stand in stands:
        if stand not in found:
            for other in group:
                found[plus(faces, stand, other)] = stand
    return found


def is_power_of(number, prime):
    """Whether a number from 1 on is the prime so often multiplied, or 1."""
    while number > 1:
        if number % prime > 0:
            return False
        number = number // prime
    return True


def need_even(table, wish):
    """None, or the first refusal that is due where an EVEN WISH is told."""
    need_wish(table, wish)
    if not is_even_by(table, wish):
        raise NotEven("the wish isn't even")


def heart(table, wish):
    """W(0), rising."""
    need_even(table, wish)
    return tuple(sorted(heart_of(table, wish)))


def steps(table, wish):
    """A list of how many STANDS W(0), W(1), .. TOP have."""
    need_even(table, wish)
    stairs = Stairs(table, wish)
    return [len(stairs.level(step)) for step in range(stairs.highest() + 1)]


def step_of(table, wish, stand):
    """The STAND's STEP, None of one OUTSIDE."""
    need_even(table, wish)
    need_stand(table, stand)
    return Stairs(table, wish).step_at(stand)


def can_be_sure(table, wish, lot):
    """Whether the LOT is SURE by some ROW."""
    need_even(table, wish)
    need_lot_of(table, wish, lot)
    stairs = Stairs(table, wish)
    return all(stairs.step_at(orbit) is not None for orbit in lot)


def by_prime(table):
    """1 of one TURNING alone, P where the number of TURNINGS and FACES are powers of a prime P, else None."""
    need_table(table)
    faces, turnings = table
    if len(turnings) == 1:
        return 1
    prime = [number for number in range(2, faces + 1) if faces % number == 0][0]
    if is_power_of(faces, prime) and is_power_of(len(turnings), prime):
        return prime
    return None
