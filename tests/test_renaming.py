"""Point 17: NAMES, what is RENAMED, which TURNINGS are KIN."""

import unittest
from math import factorial

from tests.helpers import NO_TURNINGS, ODD_THINGS, Case, all_orders, eight_by_halves, small_lots_of_turnings
from unseenturn.blocks import all_kept
from unseenturn.company import many_orbits
from unseenturn.errors import BadTable, BadTurning, TooGreat
from unseenturn.making import made, mirrored, nested, ring, side_by_side
from unseenturn.renaming import many_names, renamed, renaming
from unseenturn.turnings import are_turnings, back, rounds, then

LOTS = small_lots_of_turnings()
FIRST_TWO = ((0, 1, 2), (1, 0, 2))


def renamed_slowly(turnings, names):
    """Seat I of old is names[I] now: so each goes from its new name to the new name of where it went."""
    found = []
    for turning in turnings:
        order = [None] * len(names)
        for seat, goal in enumerate(turning):
            order[names[seat]] = names[goal]
        found.append(tuple(order))
    return tuple(sorted(found))


class Renamed(Case):
    def test_by_hand(self):
        self.assertEqual(renamed(FIRST_TWO, (1, 2, 0)), ((0, 1, 2), (0, 2, 1)))
        self.assertEqual(renamed(FIRST_TWO, (2, 0, 1)), ((0, 1, 2), (2, 1, 0)))
        self.assertEqual(renamed(ring(4), (0, 2, 1, 3)), ((0, 1, 2, 3), (1, 0, 3, 2), (2, 3, 1, 0), (3, 2, 0, 1)))
        self.assertEqual(renamed(turnings=ring(1), names=(0,)), ring(1))
        self.assertEqual(renamed(ring(8), (7, 6, 5, 4, 3, 2, 1, 0)), ring(8))

    def test_it_is_back_of_the_names_then_the_turning_then_the_names(self):
        for turnings in LOTS:
            for names in all_orders(len(turnings[0])):
                told = renamed(turnings, names)
                self.assertEqual(told, renamed_slowly(turnings, names))
                self.assertEqual(told, tuple(sorted(then(then(back(names), one), names) for one in turnings)))

    def test_what_stays(self):
        for turnings in (mirrored(5), nested(ring(2), ring(3)), side_by_side(ring(2), mirrored(4))):
            many = len(turnings[0])
            names = (2, 0, 4, 1, 3, 5)[:many]
            told = renamed(turnings, names)
            self.assertIs(are_turnings(told), True)
            self.assertEqual(many_orbits(3, told), many_orbits(3, turnings))
            self.assertEqual(len(all_kept(told)), len(all_kept(turnings)))
            self.assertEqual(sorted(sorted(map(len, rounds(one))) for one in told),
                             sorted(sorted(map(len, rounds(one))) for one in turnings))
            self.assertEqual(renamed(told, back(names)), turnings)

    def test_refused(self):
        self.refuses_no_turnings(renamed, None)
        for thing in ODD_THINGS + [(), (0, 1), (0, 1, 2, 3), [0, 1, 2]]:
            self.refused(BadTurning, None, renamed, ring(3), thing)
        for thing, number in (((3, 1, 2), 0), ((0, 0, 2), 1), ((0, 1, 1), 2), ((0, True, 2), 1), ((0, 1, 2.0), 2)):
            self.refused(BadTurning, number, renamed, ring(3), thing)


class Renaming(Case):
    def test_by_hand(self):
        self.assertEqual(renaming(ring(1), ring(1)), (0,))
        self.assertEqual(renaming(FIRST_TWO, FIRST_TWO), (0, 1, 2))
        # Seats 0 and 1 are to be called 1 and 2, either way: 0, 1, 2 to 1, 2, 0 is the least.
        self.assertEqual(renaming(first=FIRST_TWO, later=((0, 1, 2), (0, 2, 1))), (1, 2, 0))
        self.assertEqual(renaming(FIRST_TWO, ((0, 1, 2), (2, 1, 0))), (0, 2, 1))
        self.assertEqual(renaming(nested(ring(2), ring(2)), mirrored(4)), (0, 2, 1, 3))
        self.assertEqual(renaming(side_by_side(ring(2), ring(4)), side_by_side(ring(4), ring(2))), (4, 5, 0, 1, 2, 3))

    def test_not_kin(self):
        self.assertIsNone(renaming(ring(2), ((0, 1),)))
        self.assertIsNone(renaming(ring(3), FIRST_TWO))
        self.assertIsNone(renaming(ring(4), side_by_side(ring(2), ring(2))))
        self.assertIsNone(renaming(made(4, [(1, 0, 3, 2), (2, 3, 0, 1)]), side_by_side(ring(2), ring(2))))
        self.assertIsNone(renaming(made(6, [(1, 0, 3, 2, 4, 5)]), made(6, [(1, 0, 3, 2, 5, 4)])))

    def test_unlike_many_seats(self):
        self.assertIsNone(renaming(ring(6), ring(5)))
        self.assertIsNone(renaming(ring(1), ring(6)))
        self.assertIsNone(renaming(((0, 1, 2),), ((0, 1),)))

    def test_against_all_names(self):
        for first in LOTS:
            for later in LOTS:
                if len(first[0]) == len(later[0]) and len(first) == len(later):
                    names = [one for one in all_orders(len(first[0])) if renamed_slowly(first, one) == later]
                    self.assertEqual(renaming(first, later), names[0] if names else None)
                    self.assertIn(len(names), (0, many_names(first)))
                else:
                    self.assertIsNone(renaming(first, later))

    def test_six_seats(self):
        for names in ((5, 4, 3, 2, 1, 0), (2, 0, 4, 1, 3, 5)):
            for turnings in (ring(6), nested(ring(2), mirrored(3)), side_by_side(all_orders(5), ring(1))):
                told = renaming(turnings, renamed(turnings, names))
                self.assertEqual(renamed(turnings, told), renamed(turnings, names))
                self.assertLessEqual(told, names)
        # All orders of five seats, and likewise many of six by which each seat comes to each.
        moved = made(6, [(1, 2, 3, 4, 0, 5), (0, 2, 4, 1, 3, 5), (5, 4, 2, 3, 1, 0)])
        self.assertEqual(len(moved), 120)
        self.assertIsNone(renaming(side_by_side(all_orders(5), ring(1)), moved))

    def test_refused(self):
        self.refuses_no_turnings(renaming, None)
        for thing, place in NO_TURNINGS:
            self.refused(BadTable, place, renaming, ring(2), thing)
            self.refused(BadTable, place, renaming, ring(7), thing)

    def test_too_great_comes_ahead_of_none(self):
        self.barred(TooGreat, renaming, ring(7), ring(7))
        self.barred(TooGreat, renaming, ring(7), ring(2))
        self.barred(TooGreat, renaming, ring(2), ring(7))
        self.barred(TooGreat, renaming, eight_by_halves(), ring(1))
        self.barred(TooGreat, renaming, ring(8), ring(7))


class ManyNames(Case):
    def test_by_hand(self):
        self.assertEqual([many_names(ring(many)) for many in range(1, 7)], [1, 2, 6, 8, 20, 12])
        self.assertEqual([many_names(mirrored(many)) for many in range(1, 7)], [1, 2, 6, 8, 20, 12])
        self.assertEqual([many_names((tuple(range(many)),)) for many in range(1, 7)], [1, 2, 6, 24, 120, 720])
        self.assertEqual(many_names(turnings=FIRST_TWO), 2)
        self.assertEqual(many_names(made(4, [(1, 0, 3, 2), (2, 3, 0, 1)])), 24)
        self.assertEqual(many_names(side_by_side(ring(2), ring(3))), 12)
        self.assertEqual(many_names(side_by_side(all_orders(5), ring(1))), 120)

    def test_so_many_are_kin(self):
        for turnings in LOTS:
            many = len(turnings[0])
            kin = {renamed_slowly(turnings, names) for names in all_orders(many)}
            self.assertEqual(many_names(turnings) * len(kin), factorial(many))

    def test_refused(self):
        self.refuses_no_turnings(many_names)
        self.barred(TooGreat, many_names, ring(7))
        self.barred(TooGreat, many_names, eight_by_halves())


if __name__ == "__main__":
    unittest.main()
