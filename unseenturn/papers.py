"""Papers by which small lookers see that a ROW is SURE, that no short one is, and that none is."""

from unseenturn.errors import BadPaper, BadRow, NotSure
from unseenturn.lots import Board, is_lot_of, is_within, masked_by, need_few_orbits
from unseenturn.rows import lot_by, lots_by, need_lets, need_row_by, need_search, need_told_lot, weights_of
from unseenturn.tables import is_among, is_tuple_of, is_whole
from unseenturn.wishes import need_wish

MOST_LAYERS = 60


def need_many(thing):
    """None, or BadRow(None) of what is no number of DEEDS that LAYERS are told for."""
    if not is_among(thing, 0, MOST_LAYERS):
        raise BadRow(None)


def least_masks(masks):
    """Those of the masks, rising, that have no other one within them."""
    found = []
    # What is within a mask is a lesser number.
    for mask in masks:
        if not any(least & mask == least for least in found):
            found.append(mask)
    return found


def lines_by(board, steps, masks, goals):
    """The LINES of these masks, by each step to the first of the goals that is within what is left."""
    found = []
    for mask in masks:
        numbers = []
        for step in steps:
            left = masked_by(step, mask)
            numbers.append([number for number, goal in enumerate(goals) if goal & left == goal][0])
        found.append((board.unmasked(mask), tuple(numbers)))
    return tuple(found)


def levels_by(steps, start, many):
    """A list of the least masks that so many steps and fewer, to each step one, come to; [] where one is 0."""
    found = [[start]]
    for _ in range(many):
        # Where there is no step nothing has to come next, but each layer has a LINE.
        left = sorted({masked_by(step, mask) for mask in found[-1] for step in steps})
        found.append(least_masks(left) if steps else [start])
    return [] if any(0 in level for level in found) else found


def reached_by(steps, start):
    """All masks that any steps come to, rising."""
    found = [start]
    seen = set(found)
    at = 0
    while at < len(found):
        for step in steps:
            left = masked_by(step, found[at])
            if left not in seen:
                seen.add(left)
                found.append(left)
        at += 1
    return sorted(found)


def steps_by(board, lets):
    """For each of the SORTS the masks of what it leaves."""
    return [board.masks(deed) for deed in weights_of(board.table, board.leasts, lets)]


def is_line(table, wish, thing, many):
    """Whether a thing is a LINE with so many NUMBERS, by its form."""
    if not is_tuple_of(thing, 2, 2):
        return False
    lot, numbers = thing
    if not is_lot_of(table, wish, lot) or not lot or not is_tuple_of(numbers, many, many):
        return False
    return all(is_whole(number) and number >= 0 for number in numbers)


def is_so(board, deeds, line, goals):
    """Whether by each DEED one of the goals, LINES, that is told by its number, is WITHIN what is left."""
    lot, numbers = line
    for deed, number in zip(deeds, numbers):
        if number >= len(goals) or not is_within(goals[number][0], board.goals(lot, deed)):
            return False
    return True


def need_layers(table, wish, paper, many):
    """None, or BadPaper of what are no LAYERS by their form, each LINE with so many NUMBERS."""
    if not isinstance(paper, tuple) or not paper:
        raise BadPaper(None)
    if not all(isinstance(layer, tuple) and len(layer) > 0 for layer in paper):
        raise BadPaper(None)
    for number, layer in enumerate(paper):
        for place, line in enumerate(layer):
            if not is_line(table, wish, line, many if number < len(paper) - 1 else 0):
                raise BadPaper((number, place))


def need_family(table, wish, paper, many):
    """None, or BadPaper of what is no FAMILY by its form, each LINE with so many NUMBERS."""
    if not isinstance(paper, tuple) or not paper:
        raise BadPaper(None)
    for place, line in enumerate(paper):
        if not is_line(table, wish, line, many):
            raise BadPaper(place)


def fall(table, wish, row, *, lot=None):
    """A FALL of the ROW: its LOTS."""
    need_row_by(table, wish, row, lot)
    board = Board(table, wish)
    found = lots_by(board, row, lot_by(board, lot))
    if found[-1]:
        raise NotSure("the row isn't sure for this lot")
    return tuple(found)


def check_fall(table, wish, row, paper, *, lot=None):
    """None of a FALL of the ROW; BadPaper of what is none."""
    need_row_by(table, wish, row, lot)
    if not is_tuple_of(paper, len(row) + 1, len(row) + 1):
        raise BadPaper(None)
    board = Board(table, wish)
    ahead = lot_by(board, lot)
    for place, told in enumerate(paper):
        if not is_lot_of(table, wish, told) or not is_within(ahead, told):
            raise BadPaper(place)
        if place == len(row) and told:
            raise BadPaper(place)
        if place < len(row):
            ahead = board.goals(told, row[place])


def layers(table, wish, many, *, lets=None, lot=None):
    """LAYERS by which no ROW of so many let DEEDS is SURE; None where one is."""
    need_wish(table, wish)
    need_many(many)
    need_lets(table, lets)
    need_told_lot(table, wish, lot)
    board = Board(table, wish)
    need_few_orbits(board)
    steps = steps_by(board, lets)
    levels = levels_by(steps, board.mask(lot_by(board, lot)), many)
    if not levels:
        return None
    found = [lines_by(board, steps, levels[number], levels[number + 1]) for number in range(many)]
    return tuple(found + [lines_by(board, [], levels[-1], [])])


def check_layers(table, wish, paper, *, lets=None, lot=None):
    """For which number the LAYERS are; BadPaper of what are none."""
    need_search(table, wish, lets, lot)
    board = Board(table, wish)
    deeds = list(weights_of(table, board.leasts, lets))
    need_layers(table, wish, paper, len(deeds))
    if not is_within(paper[0][0][0], lot_by(board, lot)):
        raise BadPaper((0, 0))
    for number, layer in enumerate(paper[:-1]):
        for place, line in enumerate(layer):
            if not is_so(board, deeds, line, paper[number + 1]):
                raise BadPaper((number, place))
    return len(paper) - 1


def family(table, wish, *, lets=None, lot=None):
    """A FAMILY by which no ROW of let DEEDS is SURE; None where one is."""
    need_search(table, wish, lets, lot)
    board = Board(table, wish)
    need_few_orbits(board)
    steps = steps_by(board, lets)
    start = board.mask(lot_by(board, lot))
    least = least_masks(reached_by(steps, start))
    if 0 in least:
        return None
    # The first LINE's LOT has to be WITHIN the told one.
    first = [mask for mask in least if mask & start == mask][0]
    ordered = [first] + [mask for mask in least if mask != first]
    return lines_by(board, steps, ordered, ordered)


def check_family(table, wish, paper, *, lets=None, lot=None):
    """None of a FAMILY; BadPaper of what is none."""
    need_search(table, wish, lets, lot)
    board = Board(table, wish)
    deeds = list(weights_of(table, board.leasts, lets))
    need_family(table, wish, paper, len(deeds))
    if not is_within(paper[0][0], lot_by(board, lot)):
        raise BadPaper(0)
    for place, line in enumerate(paper):
        if not is_so(board, deeds, line, paper):
            raise BadPaper(place)
