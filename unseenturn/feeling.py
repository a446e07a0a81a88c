"""Feeling hands: which PATTERNS they choose, what can be felt there, and what is left by what they put."""

from itertools import combinations

from unseenturn.errors import BadFelt, BadPattern
from unseenturn.lots import Board, need_lot_of
from unseenturn.tables import is_among, is_tuple_of, need_table, seats_of, wrong_face
from unseenturn.wishes import need_wish


def wrong_pattern(many, things):
    """The number of the first thing that is none of so many seats, or not above the one ahead; else how many."""
    for number, seat in enumerate(things):
        if not is_among(seat, 0, many - 1) or number > 0 and seat <= things[number - 1]:
            return number
    return len(things)


def is_pattern_of(table, thing):
    """Whether a thing is a PATTERN of a good TABLE."""
    many = seats_of(table)
    return is_tuple_of(thing, 1, many) and wrong_pattern(many, thing) == len(thing)


def are_faces_at(table, pattern, thing):
    """Whether a thing has a face for each seat of a good PATTERN."""
    return is_tuple_of(thing, len(pattern), len(pattern)) and wrong_face(table[0], thing) == len(thing)


def need_faces_at(table, pattern, thing):
    """None, or BadFelt of what hasn't a face for each seat of a good PATTERN."""
    if not is_tuple_of(thing, len(pattern), len(pattern)):
        raise BadFelt(None)
    number = wrong_face(table[0], thing)
    if number < len(thing):
        raise BadFelt(number)


def patterns_of(many, hands):
    """A list of all PATTERNS of so many of so many seats, rising."""
    return list(combinations(range(many), hands))


def shape_by(turnings, pattern):
    """The SHAPE of a good PATTERN."""
    return min([pattern_turned(turning, pattern) for turning in turnings])


def shapes_by(table, hands):
    """A list of all SHAPES of so many seats, rising."""
    return [pattern for pattern in patterns_of(seats_of(table), hands) if shape_by(table[1], pattern) == pattern]


def faces_at(stand, pattern):
    """The faces that a STAND has at a PATTERN."""
    return tuple([stand[seat] for seat in pattern])


def put_at(stand, pattern, setting):
    """A STAND with the faces of a SETTING put at a PATTERN."""
    found = list(stand)
    for seat, face in zip(pattern, setting):
        found[seat] = face
    return tuple(found)


def stands_felt(board, lot, pattern):
    """A dict from each FELT, rising, that can be felt of a good LOT to a list of the STANDS with it."""
    found = {}
    for orbit in lot:
        for stand in board.orbits[orbit]:
            found.setdefault(faces_at(stand, pattern), []).append(stand)
    return {felt: found[felt] for felt in sorted(found)}


def left_at(board, stands, pattern, setting):
    """The LOT that is left where a SETTING is put at a PATTERN of one of these STANDS."""
    goals = {board.leasts[put_at(stand, pattern, setting)]: True for stand in stands}
    return tuple(sorted([orbit for orbit in goals if orbit in board.numbers]))


def need_felt_by(table, wish, lot, pattern):
    """None, or the first refusal that is due where a LOT is felt at a PATTERN."""
    need_wish(table, wish)
    need_lot_of(table, wish, lot)
    need_pattern(table, pattern)


def need_pattern(table, pattern):
    """None, or BadPattern of what is no PATTERN of the TABLE."""
    need_table(table)
    if not isinstance(pattern, tuple) or not pattern:
        raise BadPattern(None)
    number = wrong_pattern(seats_of(table), pattern)
    if number < len(pattern):
        raise BadPattern(number)


def need_hands(table, hands):
    """None, or BadPattern(None) of what is no number of HANDS at the TABLE."""
    need_table(table)
    if not is_among(hands, 1, seats_of(table)):
        raise BadPattern(None)


def pattern_turned(turning, pattern):
    """A good PATTERN TURNED by a good TURNING."""
    return tuple(sorted([turning[seat] for seat in pattern]))


def shape_of(table, pattern):
    """The PATTERN's SHAPE."""
    need_pattern(table, pattern)
    return shape_by(table[1], pattern)


def shapes(table, hands):
    """A list of all SHAPES of so many seats, rising."""
    need_hands(table, hands)
    return shapes_by(table, hands)


def felts(table, wish, lot, pattern):
    """A list of all that can be felt of the LOT at the PATTERN, rising."""
    need_felt_by(table, wish, lot, pattern)
    return list(stands_felt(Board(table, wish), lot, pattern))


def left_by(table, wish, lot, pattern, felt, setting):
    """The LOT that is LEFT by the FELT and the SETTING."""
    need_felt_by(table, wish, lot, pattern)
    need_faces_at(table, pattern, felt)
    board = Board(table, wish)
    stands = stands_felt(board, lot, pattern)
    if felt not in stands:
        raise BadFelt(None)
    need_faces_at(table, pattern, setting)
    return left_at(board, stands[felt], pattern, setting)
