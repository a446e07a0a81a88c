"""Points 10 and 11: what TURNINGS do, and what TURNINGS by themselves are."""

import unittest

from tests.helpers import ODD_THINGS, Case, all_orders, closure, eight_by_halves, small_lots_of_turnings
from unseenturn.errors import BadTurning, OutOfPlace
from unseenturn.tables import turned
from unseenturn.turnings import are_turnings, back, how_often, often, rounds, then

# What is no TURNING by itself, and the number that is due.
WRONG = [((), None), (tuple(range(9)), None), ([0, 1], None), ("01", None), ((1,), 0), ((True,), 0), ((0, 0), 1),
         ((0, 2), 1), ((-1, 0), 0), ((1, 2, 1), 2), ((0, None, 0), 1), ((0, [1]), 1), ((2, 0, 1, 4), 3)]


class AreTurnings(Case):
    def test_good_ones(self):
        for turnings in small_lots_of_turnings() + [eight_by_halves(), (tuple(range(8)),)]:
            self.assertIs(are_turnings(turnings), True)

    def test_bad_ones(self):
        bad = [(), [(0,)], ((1, 0),), ((1, 0), (0, 1)), ((0, 1), (0, 1)), ((0,), (0, 1)), ((0, 1, 2), (1, 2, 0)),
               all_orders(6), all_orders(6)[:128], ((0, True),), ((False,),), (tuple(range(9)),), (0, 1), ((0, 0),),
               eight_by_halves()[:-1], eight_by_halves()[1:]]
        for thing in ODD_THINGS + bad:
            self.assertIs(are_turnings(thing), False)


class OneThenOther(Case):
    def test_by_hand(self):
        self.assertEqual(then((1, 2, 0), (0, 2, 1)), (2, 1, 0))
        self.assertEqual(then((0, 2, 1), (1, 2, 0)), (1, 0, 2))
        self.assertEqual(then(first=(1, 0), later=(0, 1)), (1, 0))
        self.assertEqual(then((0,), (0,)), (0,))

    def test_it_does_what_both_do(self):
        for first in all_orders(4):
            for later in all_orders(4):
                self.assertEqual(turned(then(first, later), (5, 6, 7, 8)), turned(later, turned(first, (5, 6, 7, 8))))

    def test_refused(self):
        for thing, number in WRONG:
            self.refused(BadTurning, number, then, thing, None)
        for thing, number in (((0, 1), None), ((0, 1, 2, 3), None), ([0, 1, 2], None), (None, None), ((3, 1, 2), 0),
                              ((1, 1, 2), 1), ((1, 0, False), 2), ((0, 2, 2), 2)):
            self.refused(BadTurning, number, then, (1, 2, 0), thing)


class Back(Case):
    def test_by_hand(self):
        self.assertEqual(back((1, 2, 0)), (2, 0, 1))
        self.assertEqual(back((2, 0, 3, 1)), (1, 3, 0, 2))
        self.assertEqual(back(turning=(0,)), (0,))

    def test_either_first_is_calm(self):
        for turning in all_orders(4):
            self.assertEqual(then(turning, back(turning)), (0, 1, 2, 3))
            self.assertEqual(then(back(turning), turning), (0, 1, 2, 3))

    def test_refused(self):
        for thing, number in WRONG:
            self.refused(BadTurning, number, back, thing)


class Often(Case):
    turning = (1, 2, 0, 4, 3)

    def test_by_hand(self):
        self.assertEqual(often(self.turning, 0), (0, 1, 2, 3, 4))
        self.assertEqual(often(self.turning, 1), self.turning)
        self.assertEqual(often(self.turning, 2), (2, 0, 1, 3, 4))
        self.assertEqual(often(self.turning, 3), (0, 1, 2, 4, 3))
        self.assertEqual(often(self.turning, -1), (2, 0, 1, 4, 3))
        self.assertEqual(often(self.turning, -2), (1, 2, 0, 3, 4))
        self.assertEqual(often(turning=(1, 0), count=3), (1, 0))

    def test_great_counts(self):
        self.assertEqual(often(self.turning, 6 * 10 ** 50 + 1), self.turning)
        self.assertEqual(often(self.turning, -6 * 10 ** 50 - 1), back(self.turning))
        self.assertEqual(often((0,), 10 ** 50), (0,))

    def test_step_by_step(self):
        for turning in all_orders(4):
            here, there = (0, 1, 2, 3), (0, 1, 2, 3)
            for count in range(14):
                self.assertEqual(often(turning, count), here)
                self.assertEqual(often(turning, -count), there)
                here, there = then(here, turning), then(there, back(turning))

    def test_refused(self):
        for thing, number in WRONG:
            self.refused(BadTurning, number, often, thing, None)
        for count in (None, True, False, "1", 1.0, (1,), []):
            self.barred(OutOfPlace, often, (1, 0), count)


class Rounds(Case):
    def test_by_hand(self):
        self.assertEqual(rounds((0,)), ((0,),))
        self.assertEqual(rounds((0, 1, 2)), ((0,), (1,), (2,)))
        self.assertEqual(rounds((1, 2, 0, 4, 3)), ((0, 1, 2), (3, 4)))
        self.assertEqual(rounds((2, 1, 4, 3, 0)), ((0, 2, 4), (1,), (3,)))
        self.assertEqual(rounds(turning=(3, 2, 1, 0)), ((0, 3), (1, 2)))
        self.assertEqual(rounds((4, 6, 0, 7, 2, 5, 1, 3)), ((0, 4, 2), (1, 6), (3, 7), (5,)))

    def test_what_they_leave(self):
        for turning in all_orders(4):
            stands = [(a, b, c, d) for a in range(3) for b in range(3) for c in range(3) for d in range(3)]
            left = [stand for stand in stands if turned(turning, stand) == stand]
            self.assertEqual(len(left), 3 ** len(rounds(turning)))
            self.assertEqual(sorted(sum(rounds(turning), ())), [0, 1, 2, 3])
            self.assertEqual(list(rounds(turning)), sorted(rounds(turning)))

    def test_how_often(self):
        self.assertEqual(how_often((0, 1, 2)), 1)
        self.assertEqual(how_often((1, 0, 3, 2)), 2)
        self.assertEqual(how_often((1, 2, 0, 4, 5, 6, 7, 3)), 15)
        self.assertEqual(how_often(turning=(1, 0, 3, 4, 5, 2)), 4)
        self.assertEqual(how_often((1, 0, 3, 4, 2)), 6)
        for turning in all_orders(5):
            counts = [count for count in range(1, how_often(turning) + 1) if often(turning, count) == (0, 1, 2, 3, 4)]
            self.assertEqual(counts, [how_often(turning)])
            self.assertEqual(len(closure([turning], 5)), how_often(turning))

    def test_refused(self):
        for thing, number in WRONG:
            self.refused(BadTurning, number, rounds, thing)
            self.refused(BadTurning, number, how_often, thing)


if __name__ == "__main__":
    unittest.main()
