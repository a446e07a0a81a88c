"""Tables and slow, plain reckonings that the tests share."""

import itertools
import unittest

from unseenturn.errors import BadTable

CALM_ONE = (2, ((0,),))
SWAP = (3, ((0, 1), (1, 0)))
TURN_THREE = (2, ((0, 1, 2), (1, 2, 0), (2, 0, 1)))

# Things of many kinds, none of which is a tuple of anything that could be meant.
ODD_THINGS = [None, True, False, 0, 1, -1, 7, "", "01", b"\x00\x01", [], [0, 1], {}, {0: 1}, {0, 1},
              1.0, object(), int, range(2), lambda: 0, ((),), (None,), ([],), ({},), ("0",), (True,), (1.0,), ((True,),)]


def closure(makers, many):
    """All orders that are made by these, the slow way."""
    found = {tuple(range(many))}
    while True:
        more = {tuple(later[seat] for seat in first) for first in found for later in makers} | found
        if more == found:
            return tuple(sorted(found))
        found = more


def all_orders(many):
    return tuple(itertools.permutations(range(many)))


def eight_by_halves():
    """128 TURNINGS of eight seats: halves of halves of pairs, each swapped."""
    return closure([(1, 0, 2, 3, 4, 5, 6, 7), (2, 3, 0, 1, 4, 5, 6, 7), (4, 5, 6, 7, 0, 1, 2, 3)], 8)


def small_lots_of_turnings():
    """All that two orders of one to four seats make, each such lot once."""
    found = {}
    for many in range(1, 5):
        for first in all_orders(many):
            for later in all_orders(many):
                found[closure([first, later], many)] = True
    return list(found)


# Tables of few stands, and others that a slow reckoning can still look through.
SMALL_TABLES = [
    (2, ((0,),)), (5, ((0,),)), (4, ((0, 1),)), SWAP, (4, ((0, 1), (1, 0))), TURN_THREE, (3, TURN_THREE[1]),
    (2, all_orders(3)), (2, closure([(1, 2, 3, 0)], 4)), (2, closure([(1, 2, 3, 0), (3, 2, 1, 0)], 4)),
    (2, closure([(1, 0, 3, 2)], 4)), (2, ((0, 1, 2, 3),)), (2, all_orders(4)), (2, closure([(1, 2, 0, 4, 3)], 5))]


def slow_turned(turning, stand):
    found = {goal: stand[seat] for seat, goal in enumerate(turning)}
    return tuple(found[seat] for seat in range(len(stand)))


def slow_stands(table):
    return list(itertools.product(range(table[0]), repeat=len(table[1][0])))


def slow_plus(table, stand, other):
    return tuple((one + more) % table[0] for one, more in zip(stand, other))


def slow_minus(table, stand, other):
    return tuple((one - more) % table[0] for one, more in zip(stand, other))


def slow_orbit(table, stand):
    return {slow_turned(turning, stand) for turning in table[1]}


def slow_least(table, stand):
    return min(slow_orbit(table, stand))


def slow_orbits(table):
    return sorted({slow_least(table, stand) for stand in slow_stands(table)})


def slow_wished(table, wish):
    return {stand for least in wish for stand in slow_orbit(table, least)}


def slow_free(table, wish):
    return [orbit for orbit in slow_orbits(table) if orbit not in wish]


def slow_behind(table, wish, lot, deed):
    """What stands behind a deed, by all stands of a lot and all turnings."""
    found = {slow_least(table, slow_plus(table, slow_turned(turning, stand), deed))
             for stand in slow_wished(table, lot) for turning in table[1]}
    return tuple(sorted(found - set(wish)))


def slow_patterns(table, hands):
    return list(itertools.combinations(range(len(table[1][0])), hands))


def slow_faces(table, many):
    return list(itertools.product(range(table[0]), repeat=many))


def slow_shapes(table, hands):
    return sorted({min(tuple(sorted(turning[seat] for seat in pattern)) for turning in table[1])
                   for pattern in slow_patterns(table, hands)})


def slow_felts(table, lot, pattern):
    return sorted({tuple(stand[seat] for seat in pattern) for stand in slow_wished(table, lot)})


def slow_left(table, wish, lot, pattern, felt, setting):
    """What is left by a felt and a setting, by all stands of a lot."""
    found = set()
    for stand in slow_wished(table, lot):
        if tuple(stand[seat] for seat in pattern) == felt:
            put = dict(zip(pattern, setting))
            found.add(slow_least(table, tuple(put.get(seat, face) for seat, face in enumerate(stand))))
    return tuple(sorted(found - set(wish)))


def slow_step(table, wish, step, stand):
    """The stand behind a step that is done to a turned one, and whether all is as it was heard."""
    if step[0] == "blind":
        later = slow_plus(table, stand, step[1])
        felt = True
    else:
        put = dict(zip(step[1], step[3]))
        later = tuple(put.get(seat, face) for seat, face in enumerate(stand))
        felt = tuple(stand[seat] for seat in step[1]) == step[2]
    return later, felt and (later in slow_wished(table, wish)) is step[-1]


def slow_runs(table, wish, hearing):
    """A dict from each run of a hearing that fits to its stands behind no step, one, .. all."""
    begins = [stand for stand in slow_stands(table) if stand not in slow_wished(table, wish)]
    found = {(stand, ()): (stand,) for stand in begins}
    for step in hearing:
        more = {}
        for (stand, turns), stands in found.items():
            for turning in table[1]:
                later, so = slow_step(table, wish, step, slow_turned(turning, stands[-1]))
                if so:
                    more[(stand, turns + (turning,))] = stands + (later,)
        found = more
    return found


def random_step(chance, table, bell):
    if chance.random() < 0.5:
        return "blind", chance.choice(slow_stands(table)), bell
    hands = chance.randint(1, len(table[1][0]))
    faces = slow_faces(table, hands)
    return "felt", chance.choice(slow_patterns(table, hands)), chance.choice(faces), chance.choice(faces), bell


def random_hearing(chance, table, wish, many):
    """A hearing of so many steps at most, of which most fit one run; it ends where the bell rings."""
    free = [stand for stand in slow_stands(table) if stand not in slow_wished(table, wish)]
    stand = chance.choice(free or slow_stands(table))
    found = []
    for number in range(many):
        turned = slow_turned(chance.choice(table[1]), stand)
        step = random_step(chance, table, False)
        if step[0] == "felt" and chance.random() < 0.85:
            step = step[:2] + (tuple(turned[seat] for seat in step[1]),) + step[3:]
        stand = slow_step(table, wish, step, turned)[0]
        rings = stand in slow_wished(table, wish)
        if rings and chance.random() < 0.6 or number == many - 1 and chance.random() < 0.1:
            return tuple(found) + (step[:-1] + (True,),)
        found.append(step)
    return tuple(found)


def slow_depths(table, wish, hands):
    """A dict from each lot to its depth or None, by all that so many hands can do, whatever is felt."""
    lots = tuples_of(slow_free(table, wish), 99)
    lefts = {lot: [[[slow_left(table, wish, lot, pattern, felt, setting) for setting in slow_faces(table, hands)]
                    for felt in slow_felts(table, lot, pattern)] for pattern in slow_patterns(table, hands)] for lot in lots}
    found = {(): 0}
    rank = 0
    while True:
        rank += 1
        more = [lot for lot in lots if lot not in found
                and any(all(any(left in found for left in answer) for answer in choice) for choice in lefts[lot])]
        if not more:
            return {lot: found.get(lot) for lot in lots}
        for lot in more:
            found[lot] = rank


def tuples_of(things, most):
    """All rising tuples of none to most of the things."""
    return [told for many in range(min(most, len(things)) + 1)
            for told in itertools.combinations(sorted(things), many)]


# What are no TURNINGS by themselves, and the place that is due.
NO_TURNINGS = [(thing, "turnings") for thing in ODD_THINGS] + [
    ((), "turnings"), ([(0,)], "turnings"), ((0, 1), "turnings"), (((0, 0),), "turnings"), (((0, True),), "turnings"),
    (((1, 0), (0, 1)), "turnings"), (((0, 1), (0, 1)), "turnings"), (((0,), (0, 1)), "turnings"),
    ((tuple(range(9)),), "turnings"), (all_orders(6), "turnings"), (((1, 0),), "closed"),
    (((0, 1, 2), (1, 2, 0)), "closed"), (all_orders(6)[:128], "closed"), (eight_by_halves()[1:], "closed")]

# What is no number of seats, and what is none of three seats.
NO_SEATS = [0, 9, -1, 10 ** 30, None, True, False, "3", 3.0, (3,), [3], {}]
NO_SEAT_OF_THREE = [3, -1, 10 ** 30, None, True, False, "1", 1.0, (1,), [1], {}]


class Case(unittest.TestCase):
    def refused(self, error, value, call, *args, **more):
        """The call is refused with just that error, and that value in its one field."""
        with self.assertRaises(error) as caught:
            call(*args, **more)
        self.assertIs(type(caught.exception), error)
        self.assertEqual(vars(caught.exception), {self.field_of(error): value})
        self.assertIs(type(list(vars(caught.exception).values())[0]), type(value))

    def field_of(self, error):
        return {"BadTable": "place", "BadRun": "place", "BadPaper": "place", "BadHearing": "step",
                "Inside": "step"}.get(error.__name__, "number")

    def refuses_no_turnings(self, call, *args):
        """The call is refused wherever its first argument are no TURNINGS, whatever stands behind it."""
        for thing, place in NO_TURNINGS:
            self.refused(BadTable, place, call, thing, *args)

    def barred(self, error, call, *args, **more):
        """The call is refused with just that error, which is made of a text."""
        with self.assertRaises(error) as caught:
            call(*args, **more)
        self.assertIs(type(caught.exception), error)
        self.assertEqual([type(thing) for thing in caught.exception.args], [str])
