"""Points 13, 14, and 10, 15 and 20 as far as many_orbits tells them: seats TOGETHER, PARTS, how many ORBITS."""

import itertools
import unittest

from tests.helpers import NO_SEAT_OF_THREE, ODD_THINGS, Case, all_orders, closure, eight_by_halves
from tests.helpers import small_lots_of_turnings
from unseenturn.company import are_part, bringing, many_orbits, shares, still, together
from unseenturn.errors import BadTable, OutOfPlace
from unseenturn.making import mirrored, nested, ring, side_by_side
from unseenturn.tables import turned
from unseenturn.turnings import are_turnings, then

LOTS = small_lots_of_turnings()
ALL_THREE = all_orders(3)
PAIRS = side_by_side(ring(2), ring(3))


def parts_of(turnings):
    return [part for part in LOTS if set(part) <= set(turnings)]


class Seats(Case):
    def test_together_by_hand(self):
        self.assertEqual(together(ring(1)), ((0,),))
        self.assertEqual(together(((0, 1, 2),)), ((0,), (1,), (2,)))
        self.assertEqual(together(ring(8)), ((0, 1, 2, 3, 4, 5, 6, 7),))
        self.assertEqual(together(PAIRS), ((0, 1), (2, 3, 4)))
        self.assertEqual(together(((0, 1, 2, 3), (2, 1, 0, 3))), ((0, 2), (1,), (3,)))
        self.assertEqual(together(turnings=((0, 1, 2, 3), (3, 2, 1, 0))), ((0, 3), (1, 2)))

    def test_together_by_what_it_means(self):
        for turnings in LOTS:
            told = together(turnings)
            many = len(turnings[0])
            self.assertEqual(sorted(sum(told, ())), list(range(many)))
            self.assertEqual(list(told), sorted(told))
            for seat, goal in itertools.product(range(many), repeat=2):
                comes = any(turning[seat] == goal for turning in turnings)
                self.assertEqual(any(seat in row and goal in row for row in told), comes)

    def test_bringing_by_hand(self):
        self.assertEqual(bringing(ALL_THREE, 0, 2), ((2, 0, 1), (2, 1, 0)))
        self.assertEqual(bringing(ALL_THREE, 2, 0), ((1, 2, 0), (2, 1, 0)))
        self.assertEqual(bringing(ring(4), 3, 1), ((2, 3, 0, 1),))
        self.assertEqual(bringing(turnings=PAIRS, seat=0, goal=2), ())
        self.assertEqual(still(ALL_THREE, 1), ((0, 1, 2), (2, 1, 0)))
        self.assertEqual(still(turnings=ring(5), seat=4), ((0, 1, 2, 3, 4),))
        self.assertEqual(still(mirrored(4), 0), ((0, 1, 2, 3), (0, 3, 2, 1)))
        self.assertEqual(still(PAIRS, 0), ((0, 1, 2, 3, 4), (0, 1, 3, 4, 2), (0, 1, 4, 2, 3)))

    def test_bringing_are_none_or_as_many_as_still(self):
        for turnings in LOTS:
            for seat in range(len(turnings[0])):
                calm = still(turnings, seat)
                self.assertIs(are_turnings(calm), True)
                self.assertEqual(bringing(turnings, seat, seat), calm)
                row = [row for row in together(turnings) if seat in row][0]
                self.assertEqual(len(row) * len(calm), len(turnings))
                for goal in range(len(turnings[0])):
                    told = bringing(turnings, seat, goal)
                    self.assertEqual(told, tuple(one for one in turnings if one[seat] == goal))
                    self.assertEqual(len(told), len(calm) if goal in row else 0)
                    for one in told:
                        self.assertEqual(told, tuple(sorted(then(first, one) for first in calm)))

    def test_refused(self):
        self.refuses_no_turnings(together)
        self.refuses_no_turnings(bringing, None, None)
        self.refuses_no_turnings(still, None)
        for seat in NO_SEAT_OF_THREE:
            self.barred(OutOfPlace, bringing, ALL_THREE, seat, 0)
            self.barred(OutOfPlace, bringing, ALL_THREE, 0, seat)
            self.barred(OutOfPlace, still, ALL_THREE, seat)


class Parts(Case):
    def test_good_ones(self):
        for part in (((0, 1, 2),), ((0, 1, 2), (0, 2, 1)), ring(3), ALL_THREE):
            self.assertIs(are_part(ALL_THREE, part), True)
        self.assertIs(are_part(turnings=eight_by_halves(), thing=ring(8)), False)
        self.assertIs(are_part(eight_by_halves(), closure([(1, 0, 2, 3, 4, 5, 6, 7)], 8)), True)
        self.assertIs(are_part(ring(8), ((0, 1, 2, 3, 4, 5, 6, 7), (4, 5, 6, 7, 0, 1, 2, 3))), True)

    def test_no_part(self):
        for thing in ODD_THINGS + [(), ((1, 2, 0),), ((0, 1, 2), (1, 2, 0)), ((1, 2, 0), (2, 0, 1)), list(ring(3)),
                                   ((0, 1, 2), (0, 2, 1)), ((0, 1, 2), (1, 0, 2)), ALL_THREE, ring(2), ring(4),
                                   ((0, 1, 2), (0, 1, 2)), ((False, 1, 2),), ((2, 0, 1), (1, 2, 0), (0, 1, 2)),
                                   ([0, 1, 2],), ((0, 1, 2.0),)]:
            self.assertIs(are_part(ring(3), thing), False)

    def test_by_what_it_means(self):
        for turnings in LOTS:
            for part in LOTS:
                self.assertIs(are_part(turnings, part), set(part) <= set(turnings))

    def test_refused(self):
        self.refuses_no_turnings(are_part, None)


class Shares(Case):
    def test_by_hand(self):
        self.assertEqual(shares(ALL_THREE, ((0, 1, 2), (1, 0, 2))),
                         [((0, 1, 2), (1, 0, 2)), ((0, 2, 1), (2, 0, 1)), ((1, 2, 0), (2, 1, 0))])
        self.assertEqual(shares(ALL_THREE, ring(3)), [ring(3), ((0, 2, 1), (1, 0, 2), (2, 1, 0))])
        self.assertEqual(shares(turnings=ring(2), part=ring(2)), [ring(2)])
        self.assertEqual(shares(ring(3), ((0, 1, 2),)), [((0, 1, 2),), ((1, 2, 0),), ((2, 0, 1),)])

    def test_by_what_they_mean(self):
        for turnings in LOTS:
            for part in parts_of(turnings):
                told = shares(turnings, part)
                slow = {tuple(sorted(then(one, turning) for one in part)) for turning in turnings}
                self.assertEqual(told, sorted(slow))
                self.assertEqual([len(share) for share in told], [len(part)] * (len(turnings) // len(part)))
                self.assertEqual(sorted(sum(told, ())), list(turnings))

    def test_shares_of_still(self):
        for turnings in (ALL_THREE, mirrored(4), PAIRS, nested(ring(2), ring(3)), eight_by_halves()):
            for seat in range(len(turnings[0])):
                brought = [bringing(turnings, seat, goal) for goal in range(len(turnings[0]))]
                self.assertEqual(shares(turnings, still(turnings, seat)), sorted(row for row in brought if row))

    def test_what_is_told_may_be_spoilt(self):
        told = shares(ALL_THREE, ring(3))
        told[0] = None
        told.append(3)
        self.assertEqual(shares(ALL_THREE, ring(3)), [ring(3), ((0, 2, 1), (1, 0, 2), (2, 1, 0))])

    def test_refused(self):
        self.refuses_no_turnings(shares, None)
        for thing in ODD_THINGS + [(), ((1, 2, 0),), list(ring(3)), ((0, 1, 2), (0, 2, 1)), ALL_THREE, ring(2)]:
            self.barred(OutOfPlace, shares, ring(3), thing)


class ManyOrbits(Case):
    def test_counted_stand_by_stand(self):
        for turnings in LOTS + [ring(5), mirrored(5), ring(6), PAIRS, nested(ring(2), ring(3)), eight_by_halves()]:
            for faces in (2, 3):
                if faces ** len(turnings[0]) <= 729:
                    stands = itertools.product(range(faces), repeat=len(turnings[0]))
                    least = {min(turned(turning, stand) for turning in turnings) for stand in stands}
                    self.assertEqual(many_orbits(faces, turnings), len(least))

    def test_by_hand(self):
        self.assertEqual(many_orbits(2, ring(1)), 2)
        self.assertEqual(many_orbits(9, ring(1)), 9)
        self.assertEqual(many_orbits(2, ring(4)), 6)
        self.assertEqual(many_orbits(faces=2, turnings=mirrored(6)), 13)
        self.assertEqual(many_orbits(2, ring(8)), 36)
        self.assertEqual(many_orbits(2, mirrored(8)), 30)

    def test_more_than_729_stands(self):
        self.assertEqual(many_orbits(9, (tuple(range(8)),)), 9 ** 8)
        self.assertEqual(many_orbits(9, ring(8)), (9 ** 8 + 9 ** 4 + 2 * 9 ** 2 + 4 * 9) // 8)
        self.assertEqual(many_orbits(9, ring(7)), (9 ** 7 + 6 * 9) // 7)
        self.assertEqual(many_orbits(3, mirrored(8)), (3 ** 8 + 3 ** 4 + 2 * 3 ** 2 + 4 * 3 + 4 * 3 ** 4 + 4 * 3 ** 5) // 16)
        # Of all orders only how often each face is there matters: 5 things of 9 kinds.
        self.assertEqual(many_orbits(9, all_orders(5)), 1287)
        self.assertEqual(many_orbits(5, side_by_side(ring(4), ring(4))), ((5 ** 4 + 5 ** 2 + 2 * 5) // 4) ** 2)

    def test_faces_are_refused_ahead(self):
        for faces in (1, 10, 0, -2, None, True, False, "2", 2.0, (2,), [2], 10 ** 30):
            self.refused(BadTable, "faces", many_orbits, faces, ring(3))
            self.refused(BadTable, "faces", many_orbits, faces, None)
        self.refused(BadTable, "turnings", many_orbits, 2, None)
        self.refused(BadTable, "turnings", many_orbits, 9, ((1, 0), (0, 1)))
        self.refused(BadTable, "closed", many_orbits, 2, ((0, 1, 2), (1, 2, 0)))


if __name__ == "__main__":
    unittest.main()
