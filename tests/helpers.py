"""Tables and slow, plain reckonings that the tests share."""

import itertools
import unittest

from unseenturn.errors import BadTable

CALM_ONE = (2, ((0,),))
SWAP = (3, ((0, 1), (1, 0)))
TURN_THREE = (2, ((0, 1, 2), (1, 2, 0), (2, 0, 1)))

# Things of many kinds, none of which is a tuple of anything that could be meant.
ODD_THINGS = [None, True, False, 0, 1, -1, 7, "", "01", b"\x00\x01", [], [0, 1], {}, {0: 1}, {0, 1},
              1.0, object(), int, range(2), lambda: 0, ((),), (None,), ([],), ({},), ("0",), (True,), (1.0,), ((True,),)]


def closure(makers, many):
    """All orders that are made by these, the slow way."""
    found = {tuple(range(many))}
    while True:
        more = {tuple(later[seat] for seat in first) for first in found for later in makers} | found
        if more == found:
            return tuple(sorted(found))
        found = more


def all_orders(many):
    return tuple(itertools.permutations(range(many)))


def eight_by_halves():
    """128 TURNINGS of eight seats: halves of halves of pairs, each swapped."""
    return closure([(1, 0, 2, 3, 4, 5, 6, 7), (2, 3, 0, 1, 4, 5, 6, 7), (4, 5, 6, 7, 0, 1, 2, 3)], 8)


def small_lots_of_turnings():
    """All that two orders of one to four seats make, each such lot once."""
    found = {}
    for many in range(1, 5):
        for first in all_orders(many):
            for later in all_orders(many):
                found[closure([first, later], many)] = True
    return list(found)


# What are no TURNINGS by themselves, and the place that is due.
NO_TURNINGS = [(thing, "turnings") for thing in ODD_THINGS] + [
    ((), "turnings"), ([(0,)], "turnings"), ((0, 1), "turnings"), (((0, 0),), "turnings"), (((0, True),), "turnings"),
    (((1, 0), (0, 1)), "turnings"), (((0, 1), (0, 1)), "turnings"), (((0,), (0, 1)), "turnings"),
    ((tuple(range(9)),), "turnings"), (all_orders(6), "turnings"), (((1, 0),), "closed"),
    (((0, 1, 2), (1, 2, 0)), "closed"), (all_orders(6)[:128], "closed"), (eight_by_halves()[1:], "closed")]

# What is no number of seats, and what is none of three seats.
NO_SEATS = [0, 9, -1, 10 ** 30, None, True, False, "3", 3.0, (3,), [3], {}]
NO_SEAT_OF_THREE = [3, -1, 10 ** 30, None, True, False, "1", 1.0, (1,), [1], {}]


class Case(unittest.TestCase):
    def refused(self, error, value, call, *args, **more):
        """The call is refused with just that error, and that value in its one field."""
        with self.assertRaises(error) as caught:
            call(*args, **more)
        self.assertIs(type(caught.exception), error)
        self.assertEqual(vars(caught.exception), {self.field_of(error): value})
        self.assertIs(type(list(vars(caught.exception).values())[0]), type(value))

    def field_of(self, error):
        return {"BadTable": "place", "BadRun": "place", "BadPaper": "place", "BadHearing": "step",
                "Inside": "step"}.get(error.__name__, "number")

    def refuses_no_turnings(self, call, *args):
        """The call is refused wherever its first argument are no TURNINGS, whatever stands behind it."""
        for thing, place in NO_TURNINGS:
            self.refused(BadTable, place, call, thing, *args)

    def barred(self, error, call, *args, **more):
        """The call is refused with just that error, which is made of a text."""
        with self.assertRaises(error) as caught:
            call(*args, **more)
        self.assertIs(type(caught.exception), error)
        self.assertEqual([type(thing) for thing in caught.exception.args], [str])
