"""PLANS of feeling hands: by how many choosings they surely come to the bell, and how."""

from unseenturn.errors import BadPaper, Never, NotSure, TooGreat
from unseenturn.feeling import are_faces_at, is_pattern_of, left_at, need_hands, shapes_by, stands_felt
from unseenturn.lots import Board, is_lot_of, is_within, masked_by, need_lot_of
from unseenturn.making import choices_of
from unseenturn.tables import is_tuple_of, is_whole, power
from unseenturn.wishes import need_wish

MOST_FREE = 8
MOST_CHOICES = 4096
# More than any LOT needs: what is left needs less and less, so no LOT comes twice, and there aren't so many.
ENDLESS = 1 << 20


class Answer:
    """A FELT at a PATTERN: of which ORBITS it can be felt, and for each SETTING what is LEFT; all told by masks."""

    def __init__(self, felt, lot, rows):
        self.felt = felt
        self.lot = lot
        self.rows = rows
        self.few = few_of(rows)
        self.found = {}

    def lefts(self, mask):
        """A list of what some SETTINGS leave of a LOT: each other one leaves as much as one of these, or more."""
        felt = mask & self.lot
        if felt not in self.found:
            self.found[felt] = list({masked_by(row, felt): True for row in self.few})
        return self.found[felt]


class Choosings:
    """By how many choosings so many HANDS surely come to the bell; LOTS are told by masks."""

    def __init__(self, board, hands):
        self.board = board
        self.settings = choices_of(list(range(board.table[0])), hands)
        self.answers = {shape: answers_by(board, shape, self.settings) for shape in shapes_by(board.table, hands)}
        self.depths = {0: 0}
        self.spread()

    def spread(self):
        """Find all LOTS that have a DEPTH, those of each DEPTH from those of lesser ones."""
        rank = 0
        more = [0]
        while more:
            rank += 1
            more = [mask for mask in range(1 << len(self.board.whole))
                    if mask not in self.depths and self.shape_by(mask, rank - 1) is not None]
            for mask in more:
                self.depths[mask] = rank

    def answers_at(self, pattern):
        """A list of the ANSWERS at any PATTERN of so many seats."""
        if pattern in self.answers:
            return self.answers[pattern]
        return answers_by(self.board, pattern, self.settings)

    def depth_at(self, mask):
        """A LOT's DEPTH, ENDLESS without one."""
        return self.depths.get(mask, ENDLESS)

    def least_left(self, answer, mask):
        """The least DEPTH of what a SETTING leaves of a LOT behind an ANSWER."""
        return min([self.depth_at(left) for left in answer.lefts(mask)])

    def shape_by(self, mask, most):
        """The first SHAPE by which, whatever is felt of a LOT, a SETTING leaves a DEPTH of so many at most, or None."""
        return next((shape for shape, answers in self.answers.items()
                     if all(self.least_left(answer, mask) <= most for answer in answers if answer.lot & mask)), None)

    def setting_by(self, answer, mask, most):
        """The number of the first SETTING that leaves a DEPTH of so many at most, None without one."""
        return next((number for number, row in enumerate(answer.rows)
                     if self.depth_at(masked_by(row, mask)) <= most), None)


def is_row_within(row, other):
    """Whether by each ORBIT one row of masks has no bit that another one hasn't."""
    return all(mask & more == mask for mask, more in zip(row, other))


def few_of(rows):
    """Of rows of masks those that have no other one within them, each once."""
    apart = list({tuple(row): True for row in rows})
    return [row for row in apart if not any(other != row and is_row_within(other, row) for other in apart)]


def answers_by(board, pattern, settings):
    """A list of the ANSWERS at a PATTERN, rising by what is felt."""
    groups = [stands_felt(board, (orbit,), pattern) for orbit in board.whole]
    found = []
    for felt in sorted({felt for group in groups for felt in group}):
        lot = sum([1 << number for number, group in enumerate(groups) if felt in group])
        rows = [[board.mask(left_at(board, group.get(felt, []), pattern, setting)) for group in groups]
                for setting in settings]
        found.append(Answer(felt, lot, rows))
    return found


def need_few_choices(board, hands):
    """None, or TooGreat where there is too much to search among for so many HANDS."""
    if len(board.whole) > MOST_FREE:
        raise TooGreat("too many orbits")
    if len(shapes_by(board.table, hands)) * power(board.table[0], 2 * hands) > MOST_CHOICES:
        raise TooGreat("too many choices")


def choosings_by(table, wish, hands):
    """The CHOOSINGS of so many HANDS at a good TABLE with a good WISH, or TooGreat."""
    board = Board(table, wish)
    need_few_choices(board, hands)
    return Choosings(board, hands)


def need_wish_and_hands(table, wish, hands):
    """None, or the first refusal that is due where so many HANDS are told."""
    need_wish(table, wish)
    need_hands(table, hands)


def are_puts(board, lot, pattern, thing):
    """Whether a thing is a tuple of pairs (FELT, SETTING), rising, for all that can be felt of a LOT at a PATTERN."""
    table = board.table
    felts = list(stands_felt(board, lot, pattern))
    if not is_tuple_of(thing, len(felts), len(felts)):
        return False
    for felt, pair in zip(felts, thing):
        if not is_tuple_of(pair, 2, 2) or not all(are_faces_at(table, pattern, faces) for faces in pair):
            return False
        if pair[0] != felt:
            return False
    return True


def is_plan_row(board, wish, hands, row, ahead):
    """Whether a thing is a row of a PLAN, by its form, its LOT above the one ahead."""
    if not is_tuple_of(row, 4, 4):
        return False
    lot, rank, pattern, puts = row
    if not is_lot_of(board.table, wish, lot) or lot <= ahead or not is_whole(rank) or rank < 1:
        return False
    if not is_pattern_of(board.table, pattern) or len(pattern) != hands:
        return False
    return are_puts(board, lot, pattern, puts)


def lefts_of(board, row):
    """A list of the masks of what is LEFT by a good row, each once."""
    lot, _, pattern, puts = row
    stands = stands_felt(board, lot, pattern)
    return list({board.mask(left_at(board, stands[felt], pattern, setting)): True for felt, setting in puts})


def need_plan(board, wish, hands, plan):
    """None, or BadPaper of what is no PLAN."""
    if not isinstance(plan, tuple):
        raise BadPaper(None)
    ahead = ()
    for number, row in enumerate(plan):
        if not is_plan_row(board, wish, hands, row, ahead):
            raise BadPaper(number)
        ahead = row[0]
    served = [(rank, board.mask(lot)) for lot, rank, _, _ in plan]
    least = {0: 0}
    for number, row in enumerate(plan):
        for left in lefts_of(board, row):
            if left not in least:
                least[left] = min([rank for rank, mask in served if left & mask == left], default=row[1])
            if least[left] >= row[1]:
                raise BadPaper(number)


def row_by(choosings, mask):
    """A row of a PLAN for a LOT that has a DEPTH, that being its RANK; and a list of what is LEFT by it."""
    rank = choosings.depths[mask]
    shape = choosings.shape_by(mask, rank - 1)
    puts = []
    lefts = []
    for answer in choosings.answers[shape]:
        if answer.lot & mask:
            number = choosings.setting_by(answer, mask, rank - 1)
            puts.append((answer.felt, choosings.settings[number]))
            lefts.append(masked_by(answer.rows[number], mask))
    return (choosings.board.unmasked(mask), rank, shape, tuple(puts)), lefts


def plan_by(choosings, mask):
    """A PLAN for a LOT that has a DEPTH, and for what is LEFT by it."""
    rows = {0: ()}
    waiting = [mask]
    while waiting:
        later = waiting.pop()
        if later not in rows:
            rows[later], lefts = row_by(choosings, later)
            waiting.extend(lefts)
    return tuple(sorted([row for row in rows.values() if row]))


def check_plan(table, wish, hands, plan):
    """None of a PLAN of so many HANDS; BadPaper of what is none."""
    need_wish_and_hands(table, wish, hands)
    need_plan(Board(table, wish), wish, hands, plan)


def depth_by(table, wish, hands, plan, lot):
    """The PLAN's DEPTH for a LOT."""
    check_plan(table, wish, hands, plan)
    need_lot_of(table, wish, lot)
    if not lot:
        return 0
    found = min([rank for served, rank, _, _ in plan if is_within(lot, served)], default=None)
    if found is None:
        raise NotSure("the plan doesn't serve this lot")
    return found


def depth(table, wish, hands, lot):
    """The LOT's DEPTH, None without one."""
    need_wish_and_hands(table, wish, hands)
    need_lot_of(table, wish, lot)
    choosings = choosings_by(table, wish, hands)
    return choosings.depths.get(choosings.board.mask(lot))


def plan_of(table, wish, hands, lot):
    """A PLAN that serves the LOT by its DEPTH."""
    need_wish_and_hands(table, wish, hands)
    need_lot_of(table, wish, lot)
    choosings = choosings_by(table, wish, hands)
    mask = choosings.board.mask(lot)
    if mask not in choosings.depths:
        raise Never("no plan serves this lot")
    return plan_by(choosings, mask)


def depths(table, wish, hands):
    """A list of pairs of a LOT and its DEPTH or None, of all LOTS, rising."""
    need_wish_and_hands(table, wish, hands)
    choosings = choosings_by(table, wish, hands)
    board = choosings.board
    return sorted([(board.unmasked(mask), choosings.depths.get(mask)) for mask in range(1 << len(board.whole))])


def hands_needed(table, wish, lot):
    """The HANDS NEEDED by the LOT."""
    need_wish(table, wish)
    need_lot_of(table, wish, lot)
    hands = 0
    found = not lot
    while not found:
        hands += 1
        choosings = choosings_by(table, wish, hands)
        found = choosings.board.mask(lot) in choosings.depths
    return hands
