"""The BUILT ROW of an EVEN WISH, what a ROW MISSES, and how the unseen hand keeps a STAND OUTSIDE."""

from unseenturn.errors import Inside
from unseenturn.stairs import Stairs, classes_by, need_even
from unseenturn.tables import minus, need_row, need_stand, plus, stands_of, turned


def deeds_between(faces, level, group):
    """The DEEDS that lead from each class of a level, rising STANDS, by a group to the next one."""
    classes = classes_by(faces, level, group)
    leasts = [stand for stand in level if classes[stand] == stand]
    return [minus(faces, leasts[number], leasts[number - 1]) for number in range(1, len(leasts))]


def row_by(stairs):
    """The BUILT ROW."""
    row = ()
    for step in range(stairs.highest()):
        ahead = row
        for deed in deeds_between(stairs.table[0], stairs.level(step + 1), stairs.level(step)):
            row = row + (deed,) + ahead
    return row


def caught_by(stairs, classes, row):
    """A dict of True: the classes by W(0) from which an unseen hand that never turns comes to the bell."""
    faces = stairs.table[0]
    goal = stairs.first
    found = {classes[goal]: True}
    for deed in row:
        # What comes to a WISHED STAND behind one DEED more lies that DEED further back.
        goal = minus(faces, goal, deed)
        found[classes[goal]] = True
    return found


def keeping_by(stairs, stand, deed):
    """The first TURNING behind which, and the DEED, a STAND that is OUTSIDE is OUTSIDE still."""
    faces, turnings = stairs.table
    return next(
        (turning for turning in turnings if stairs.step_at(plus(faces, turned(turning, stand), deed)) is None), None)


def need_outside(stairs, stand):
    """None, or Inside of a STAND that isn't OUTSIDE."""
    step = stairs.step_at(stand)
    if step is not None:
        raise Inside(step)


def built_row(table, wish):
    """The BUILT ROW."""
    need_even(table, wish)
    return row_by(Stairs(table, wish))


def missed(table, wish, row):
    """The STAND that is MISSED by the ROW, None where there's none."""
    need_even(table, wish)
    need_row(table, row)
    stairs = Stairs(table, wish)
    classes = classes_by(table[0], stands_of(table), stairs.level(0))
    caught = caught_by(stairs, classes, row)
    return next((stand for stand in stands_of(table)
                 if stairs.step_at(stand) is not None and classes[stand] not in caught), None)


def keeping_out(table, wish, stand, deed):
    """The first TURNING behind which, and the DEED, the STAND is OUTSIDE still."""
    need_even(table, wish)
    need_stand(table, stand)
    need_stand(table, deed)
    stairs = Stairs(table, wish)
    need_outside(stairs, stand)
    return keeping_by(stairs, stand, deed)


def lost(table, wish, row, stand):
    """The TURNINGS that keep the STAND OUTSIDE, whatever the ROW's DEEDS."""
    need_even(table, wish)
    need_row(table, row)
    need_stand(table, stand)
    stairs = Stairs(table, wish)
    need_outside(stairs, stand)
    found = []
    for deed in row:
        found.append(keeping_by(stairs, stand, deed))
        stand = plus(table[0], turned(found[-1], stand), deed)
    return tuple(found)
