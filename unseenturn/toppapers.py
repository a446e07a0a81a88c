"""Papers that show what the TOP of an EVEN WISH is, and their looker."""

from unseenturn.errors import BadPaper
from unseenturn.stairs import Stairs, classes_by, need_even
from unseenturn.tables import is_among, is_stand_of, is_tuple_of, minus, seats_of, stands_of, turned
from unseenturn.wishes import heart_of, sums_of


def group_by(table, heart, ups):
    """A dict of True: what W(0), a list, and the UPS make by sums."""
    return {stand: True for stand in sums_of(table[0], seats_of(table), heart + list(ups))}


def moving_by(table, group, stand):
    """The number of the first TURNING by which a STAND turned, less it, isn't in the group; None without one."""
    faces, turnings = table
    return next((number for number, turning in enumerate(turnings)
                 if minus(faces, turned(turning, stand), stand) not in group), None)


def leasts_by(table, group):
    """A list of the least STANDS of all classes by the group but itself, rising."""
    classes = classes_by(table[0], stands_of(table), group)
    return [stand for stand in stands_of(table) if classes[stand] == stand and stand not in group]


def is_up(table, group, thing):
    """Whether a thing is a STAND, not in the group, by which the next W may grow."""
    return is_stand_of(table, thing) and thing not in group and moving_by(table, group, thing) is None


def is_out(table, group, least, thing):
    """Whether a thing is the pair of this least STAND and the number of a TURNING that moves its class."""
    if not is_tuple_of(thing, 2, 2) or not is_stand_of(table, thing[0]) or thing[0] != least:
        return False
    faces, turnings = table
    if not is_among(thing[1], 0, len(turnings) - 1):
        return False
    return minus(faces, turned(turnings[thing[1]], least), least) not in group


def need_outs(table, group, outs, ahead):
    """None, or BadPaper of what are not just the OUTS of the group; so many UPS stand ahead."""
    leasts = leasts_by(table, group)
    for number, out in enumerate(outs):
        if number == len(leasts) or not is_out(table, group, leasts[number], out):
            raise BadPaper(ahead + number)
    if len(outs) < len(leasts):
        raise BadPaper(ahead + len(outs))


def top_paper(table, wish):
    """A PAPER of the TOP."""
    need_even(table, wish)
    stairs = Stairs(table, wish)
    heart = heart_of(table, wish)
    group = group_by(table, heart, ())
    ups = ()
    for step in range(1, stairs.highest() + 1):
        for stand in stairs.level(step):
            if stand not in group:
                ups = ups + (stand,)
                group = group_by(table, heart, ups)
    return ups, tuple([(least, moving_by(table, group, least)) for least in leasts_by(table, group)])


def check_top(table, wish, paper):
    """How many STANDS M has by a PAPER of the TOP; BadPaper of what is none."""
    need_even(table, wish)
    if not is_tuple_of(paper, 2, 2) or not isinstance(paper[0], tuple) or not isinstance(paper[1], tuple):
        raise BadPaper(None)
    ups, outs = paper
    heart = heart_of(table, wish)
    group = group_by(table, heart, ())
    for number, stand in enumerate(ups):
        if not is_up(table, group, stand):
            raise BadPaper(number)
        group = group_by(table, heart, ups[:number + 1])
    need_outs(table, group, outs, len(ups))
    return len(group)
