"""BANDS: how the unseen hand goes on for ever where feeling hands can't surely come to the bell."""

from unseenturn.errors import BadPaper
from unseenturn.feeling import are_faces_at, left_at, shapes_by, stands_felt
from unseenturn.lots import Board, is_lot_of, is_within, masked_by, need_lot_of
from unseenturn.making import choices_of
from unseenturn.plans import ENDLESS, choosings_by, need_wish_and_hands
from unseenturn.tables import is_among, is_tuple_of, power


def is_shown(board, lot, shape, many, thing):
    """Whether a thing is a pair (FELT, NUMBERS) for a LOT at a SHAPE, by its form, NUMBERS being below so many."""
    faces = board.table[0]
    if not is_tuple_of(thing, 2, 2) or not are_faces_at(board.table, shape, thing[0]):
        return False
    settings = power(faces, len(shape))
    if thing[0] not in stands_felt(board, lot, shape) or not is_tuple_of(thing[1], settings, settings):
        return False
    return all(is_among(number, 0, many - 1) for number in thing[1])


def is_band_row(board, wish, shapes, row, ahead, many):
    """Whether a thing is a row of a BAND of so many rows, by its form, its LOT above the one ahead."""
    if not is_tuple_of(row, 2, 2):
        return False
    lot, shown = row
    if not is_lot_of(board.table, wish, lot) or lot <= ahead or not is_tuple_of(shown, len(shapes), len(shapes)):
        return False
    return all(is_shown(board, lot, shape, many, pair) for shape, pair in zip(shapes, shown))


def is_kept_up(board, lot, shape, pair, goals):
    """Whether by each SETTING at a SHAPE the one of the goals, masks, that is told is WITHIN what is LEFT of a LOT."""
    felt, numbers = pair
    stands = stands_felt(board, lot, shape)[felt]
    for setting, number in zip(choices_of(list(range(board.table[0])), len(shape)), numbers):
        left = board.mask(left_at(board, stands, shape, setting))
        if goals[number] & left != goals[number]:
            return False
    return True


def need_band(board, wish, hands, band):
    """None, or BadPaper of what is no BAND."""
    if not isinstance(band, tuple):
        raise BadPaper(None)
    shapes = shapes_by(board.table, hands)
    ahead = ()
    for number, row in enumerate(band):
        if not is_band_row(board, wish, shapes, row, ahead, len(band)):
            raise BadPaper(number)
        ahead = row[0]
    goals = [board.mask(lot) for lot, _ in band]
    for number, (lot, shown) in enumerate(band):
        if not all(is_kept_up(board, lot, shape, pair, goals) for shape, pair in zip(shapes, shown)):
            raise BadPaper(number)


def least_lost(choosings):
    """A list of the masks of LOTS without a PLAN that have no other such one WITHIN them, rising as LOTS are."""
    board = choosings.board
    found = []
    # What is within a mask is a lesser number.
    for mask in range(1 << len(board.whole)):
        if mask not in choosings.depths and not any(mask & least == least for least in found):
            found.append(mask)
    return sorted(found, key=lambda least: board.unmasked(least))


def shown_at(choosings, mask, answers, goals):
    """The pair (FELT, NUMBERS) by which a LOT without a PLAN stays so, each the least that does."""
    answer = next((answer for answer in answers
                   if answer.lot & mask and choosings.least_left(answer, mask) == ENDLESS), None)
    lefts = [masked_by(row, mask) for row in answer.rows]
    return answer.felt, tuple([[goal & left == goal for goal in goals].index(True) for left in lefts])


def check_band(table, wish, hands, band):
    """None of a BAND of so many HANDS; BadPaper of what is none."""
    need_wish_and_hands(table, wish, hands)
    need_band(Board(table, wish), wish, hands, band)


def is_lost_by(table, wish, hands, band, lot):
    """Whether one of the BAND's LOTS is WITHIN the LOT."""
    check_band(table, wish, hands, band)
    need_lot_of(table, wish, lot)
    return any(is_within(least, lot) for least, _ in band)


def band_of(table, wish, hands):
    """The BAND of the least LOTS that have no PLAN."""
    need_wish_and_hands(table, wish, hands)
    choosings = choosings_by(table, wish, hands)
    goals = least_lost(choosings)
    found = []
    for mask in goals:
        shown = [shown_at(choosings, mask, answers, goals) for answers in choosings.answers.values()]
        found.append((choosings.board.unmasked(mask), tuple(shown)))
    return tuple(found)
