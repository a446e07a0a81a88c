"""Blind ROWS: which of them are SURE, how the unseen hand escapes the others, and the shortest SURE ones."""

from unseenturn.errors import BadRun, BadStand, Never, NotSure
from unseenturn.lots import Board, masked_by, need_few_orbits, need_lot_of
from unseenturn.orbits import leasts_of
from unseenturn.tables import (
    calm_of, is_stand_of, minus, need_row, need_run, need_table, plus, seats_of, stands_of, turned, walked)
from unseenturn.turnings import back_of
from unseenturn.wishes import need_wish


def need_lets(table, lets):
    """None, or BadStand of what are no LETS of a good TABLE."""
    if lets is None:
        return
    if not isinstance(lets, tuple):
        raise BadStand(None)
    for number, deed in enumerate(lets):
        if not is_stand_of(table, deed) or number > 0 and deed <= lets[number - 1]:
            raise BadStand(number)


def need_told_lot(table, wish, lot):
    """None, or BadLot of what is told for a LOT and is none."""
    if lot is not None:
        need_lot_of(table, wish, lot)


def need_row_by(table, wish, row, lot):
    """None, or the first refusal that is due where a ROW is told."""
    need_wish(table, wish)
    need_row(table, row)
    need_told_lot(table, wish, lot)


def need_search(table, wish, lets, lot):
    """None, or the first refusal that is due where let DEEDS are searched; TooGreat comes behind these."""
    need_wish(table, wish)
    need_lets(table, lets)
    need_told_lot(table, wish, lot)


def lot_by(board, lot):
    """The LOT that is told, else the WHOLE one."""
    if lot is None:
        return board.whole
    return lot


def weights_of(table, leasts, lets):
    """A dict from each of the SORTS, rising, to how many DEEDS of its ORBIT are let."""
    sort_by = {}
    found = {}
    for deed in stands_of(table) if lets is None else lets:
        orbit = leasts[deed]
        if orbit not in sort_by:
            sort_by[orbit] = deed
            found[deed] = 0
        found[sort_by[orbit]] += 1
    return found


def lots_by(board, row, lot):
    """A list of a good ROW's LOTS for a good LOT."""
    found = [lot]
    for deed in row:
        found.append(board.left(found[-1], deed))
    return found


def path_by(board, row, lot):
    """A list of ORBITS, not WISHED, that come one of another by the ROW's DEEDS; [] of a SURE ROW."""
    lots = lots_by(board, row, lot)
    if not lots[-1]:
        return []
    # Back from the end: each ORBIT of a LOT comes of one of the LOT ahead.
    path = [lots[-1][0]]
    for number in reversed(range(len(row))):
        path.append([orbit for orbit in lots[number] if path[-1] in board.left_of(orbit, row[number])][0])
    return path[::-1]


def turning_to(board, stand, deed, orbit):
    """The first TURNING behind which, and the DEED, a STAND lies in the ORBIT."""
    faces, turnings = board.table
    return next(
        (turning for turning in turnings if board.leasts[plus(faces, turned(turning, stand), deed)] == orbit), None)


def is_escape_of(board, row, thing, lot):
    """Whether a thing is an ESCAPE of a good ROW for a good LOT."""
    try:
        need_run(board.table, thing, row)
    except BadRun:
        return False
    behind = walked(board.table, thing, row)
    return board.leasts[thing[0]] in lot and all(board.leasts[stand] in board.numbers for stand in behind)


def shortest_of(board, lets, lot):
    """A pair: the first of the shortest ROWS that are SURE for a LOT, and how many these are; None without one."""
    weights = weights_of(board.table, board.leasts, lets)
    steps = [(deed, many, board.masks(deed)) for deed, many in weights.items()]
    start = board.mask(lot)
    seen = {start: True}
    level = {start: ((), 1)}
    while level and 0 not in level:
        later = {}
        # A level's ROWS rise, and so do the DEEDS: the first ROW that comes to a LOT is the least one.
        for mask, (row, count) in level.items():
            for deed, many, masks in steps:
                left = masked_by(masks, mask)
                if left not in seen:
                    first, ways = later.get(left, (row + (deed,), 0))
                    later[left] = (first, ways + many * count)
        for mask in later:
            seen[mask] = True
        level = later
    return level.get(0)


def searched(table, wish, lets, lot):
    """What shortest_of tells, behind all refusals."""
    need_search(table, wish, lets, lot)
    board = Board(table, wish)
    need_few_orbits(board)
    return shortest_of(board, lets, lot_by(board, lot))


def sorts(table, *, lets=None):
    """The SORTS of the LETS."""
    need_table(table)
    need_lets(table, lets)
    return tuple(weights_of(table, leasts_of(table), lets))


def lots_of(table, wish, row, *, lot=None):
    """The ROW's LOTS."""
    need_row_by(table, wish, row, lot)
    board = Board(table, wish)
    return tuple(lots_by(board, row, lot_by(board, lot)))


def is_sure(table, wish, row, *, lot=None):
    """Whether the ROW is SURE for the LOT."""
    return lots_of(table, wish, row, lot=lot)[-1] == ()


def latest(table, wish, row, *, lot=None):
    """A dict from each ORBIT of the LOT to behind how many DEEDS the bell has rung at the latest."""
    need_row_by(table, wish, row, lot)
    board = Board(table, wish)
    told = lot_by(board, lot)
    if lots_by(board, row, told)[-1]:
        raise NotSure("the row isn't sure for this lot")
    return {orbit: lots_by(board, row, (orbit,)).index(()) for orbit in told}


def escape(table, wish, row, *, lot=None):
    """An ESCAPE of the ROW, None of a SURE one."""
    need_row_by(table, wish, row, lot)
    board = Board(table, wish)
    path = path_by(board, row, lot_by(board, lot))
    if not path:
        return None
    stand = path[0]
    turns = []
    for deed, orbit in zip(row, path[1:]):
        turns.append(turning_to(board, stand, deed, orbit))
        stand = plus(table[0], turned(turns[-1], stand), deed)
    return path[0], tuple(turns)


def is_escape(table, wish, row, thing, *, lot=None):
    """Whether a thing is an ESCAPE of the ROW."""
    need_row_by(table, wish, row, lot)
    board = Board(table, wish)
    return is_escape_of(board, row, thing, lot_by(board, lot))


def told_back(table, row):
    """The ROW TOLD BACK."""
    need_row(table, row)
    return tuple([minus(table[0], (0,) * seats_of(table), deed) for deed in row[::-1]])


def escape_back(table, wish, row, thing):
    """The ESCAPE of the ROW TOLD BACK to which an ESCAPE for the whole lot goes over."""
    need_row_by(table, wish, row, None)
    board = Board(table, wish)
    if not is_escape_of(board, row, thing, board.whole):
        raise BadRun(None)
    turns = [calm_of(seats_of(table))] + [back_of(turning) for turning in thing[1][:0:-1]]
    return walked(table, thing, row)[-1], tuple(turns[:len(row)])


def fewest(table, wish, *, lets=None, lot=None):
    """The least number of let DEEDS of a SURE ROW, None without one."""
    found = searched(table, wish, lets, lot)
    if found is None:
        return None
    return len(found[0])


def least_row(table, wish, *, lets=None, lot=None):
    """FIRST: the first of the shortest SURE ROWS of let DEEDS."""
    found = searched(table, wish, lets, lot)
    if found is None:
        raise Never("no row of these deeds is sure")
    return found[0]


def count_least(table, wish, *, lets=None, lot=None):
    """COUNT: how many shortest SURE ROWS of let DEEDS there are."""
    found = searched(table, wish, lets, lot)
    if found is None:
        return 0
    return found[1]
