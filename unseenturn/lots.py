"""LOTS: the ORBITS that can be where the bell hasn't rung, and what a DEED leaves of them."""

from unseenturn.errors import BadLot, TooGreat
from unseenturn.orbits import leasts_of, wrong_least
from unseenturn.tables import need_stand, plus, stands_of
from unseenturn.wishes import need_wish

MOST_UNWISHED = 12
MOST_ORBITS = 40


class Board:
    """A good TABLE with a good WISH, and what is looked up there again and again."""

    def __init__(self, table, wish):
        self.table = table
        self.leasts = leasts_of(table)
        self.orbits = {}
        for stand in stands_of(table):
            self.orbits.setdefault(self.leasts[stand], []).append(stand)
        barred = {orbit: True for orbit in wish}
        self.whole = tuple([orbit for orbit in self.orbits if orbit not in barred])
        self.numbers = {orbit: number for number, orbit in enumerate(self.whole)}
        self.found = {}

    def left_of(self, orbit, deed):
        """The LOT that stands BEHIND the DEED of one ORBIT, a dict of True."""
        # DEEDS of one ORBIT do the same, so one of them is looked at.
        least = self.leasts[deed]
        if (orbit, least) not in self.found:
            goals = {}
            for stand in self.orbits[orbit]:
                goal = self.leasts[plus(self.table[0], stand, least)]
                if goal in self.numbers:
                    goals[goal] = True
            self.found[(orbit, least)] = goals
        return self.found[(orbit, least)]

    def goals(self, lot, deed):
        """The LOT that stands BEHIND the DEED, a dict of True."""
        return {goal: True for orbit in lot for goal in self.left_of(orbit, deed)}

    def left(self, lot, deed):
        """The LOT that stands BEHIND the DEED."""
        return tuple(sorted(self.goals(lot, deed)))

    def mask(self, lot):
        """A whole number that has a bit for each ORBIT of the LOT."""
        return sum([1 << self.numbers[orbit] for orbit in lot])

    def unmasked(self, mask):
        """The LOT of such a whole number."""
        return tuple([orbit for number, orbit in enumerate(self.whole) if mask >> number & 1])

    def masks(self, deed):
        """For each ORBIT that isn't WISHED the mask of what the DEED leaves of it."""
        return [self.mask(self.left_of(orbit, deed)) for orbit in self.whole]


def masked_by(masks, mask):
    """What a DEED with such masks leaves of a LOT, both told by masks."""
    found = 0
    for number, left in enumerate(masks):
        if mask >> number & 1:
            found = found | left
    return found


def need_lot_of(table, wish, lot):
    """None, or BadLot of what is no LOT of a good TABLE and a good WISH."""
    if not isinstance(lot, tuple):
        raise BadLot(None)
    number = wrong_least(table, lot, wish)
    if number < len(lot):
        raise BadLot(number)


def is_lot_of(table, wish, thing):
    """Whether a thing is a LOT of a good TABLE and a good WISH."""
    return isinstance(thing, tuple) and wrong_least(table, thing, wish) == len(thing)


def is_within(lot, other):
    """Whether a LOT has no ORBIT that another one hasn't."""
    among = {orbit: True for orbit in other}
    return all(orbit in among for orbit in lot)


def need_few_orbits(board):
    """None, or TooGreat where there are too many ORBITS to search among."""
    if len(board.whole) > MOST_UNWISHED or len(board.orbits) > MOST_ORBITS:
        raise TooGreat("too many orbits")


def need_lot(table, wish, lot):
    """None, or BadLot of what is no LOT."""
    need_wish(table, wish)
    need_lot_of(table, wish, lot)


def whole_lot(table, wish):
    """The LOT of all ORBITS that aren't WISHED."""
    need_wish(table, wish)
    return Board(table, wish).whole


def behind(table, wish, lot, deed):
    """The LOT that stands BEHIND the DEED."""
    need_lot(table, wish, lot)
    need_stand(table, deed)
    return Board(table, wish).left(lot, deed)


def kinds_of_deeds(table, wish):
    """The KINDS of DEEDS, told by their LEAST STANDS, rising."""
    need_wish(table, wish)
    board = Board(table, wish)
    need_few_orbits(board)
    kinds = {}
    for deed in board.orbits:
        kinds.setdefault(tuple(board.masks(deed)), []).append(deed)
    return tuple(sorted([tuple(kind) for kind in kinds.values()]))
