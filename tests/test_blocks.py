"""Point 16: PARTINGS, which of them are KEPT, JOINED ones, TURNINGS AMONG and WITHIN BLOCKS."""

import itertools
import unittest

from tests.helpers import NO_SEAT_OF_THREE, NO_SEATS, ODD_THINGS, Case, all_orders, closure, eight_by_halves
from tests.helpers import small_lots_of_turnings
from unseenturn.blocks import all_kept, among, is_kept, is_parting, joined_of, kept_with, within
from unseenturn.company import are_part
from unseenturn.errors import BadTable, OutOfPlace, TooGreat
from unseenturn.making import mirrored, nested, ring, side_by_side
from unseenturn.turnings import are_turnings

LOTS = small_lots_of_turnings()
CALM_FOUR = ((0, 1, 2, 3),)
FINEST = ((0,), (1,), (2,), (3,))
WHOLE = ((0, 1, 2, 3),)
PAIRS = ((0, 1), (2, 3))
ACROSS = ((0, 2), (1, 3))

# No PARTINGS of four seats.
NO_PARTINGS = ODD_THINGS + [
    (), ((),), ((), (0, 1, 2, 3)), ((0, 1, 2, 3), ()), ((0, 1), (), (2, 3)), ((0, 1), (2,)), ((0, 1), (1, 2, 3)),
    ((0, 1, 1), (2, 3)), ((0, 0), (1, 2, 3)), ((0, 1), (2, 3, 4)), ((-1, 0), (1, 2, 3)), ((2, 3), (0, 1)),
    ((1, 0), (2, 3)), ((0, 1, 2, 3), (0, 1, 2, 3)), [(0, 1), (2, 3)], ([0, 1], [2, 3]), ((0, True), (2, 3)),
    ((False, 1), (2, 3)), ((0, 1.0), (2, 3)), ((0, 1), (2, "3")), ((0, 1), (2, None)), ((0, 1), (2, (3,))),
    ((0, 1), 2, 3), (0, 1, 2, 3), ((0, 2), (3, 1)), ((0, 1, 2), (3,), (3,)), ((0,), (1,), (2,)), ("01", "23")]


def partings(many):
    """All PARTINGS, by the next seat put into each block or alone."""
    found = [[]]
    for seat in range(many):
        found = [blocks[:at] + [block + [seat]] + blocks[at + 1:] for blocks in found
                 for at, block in list(enumerate(blocks)) + [(len(blocks), [])]]
    return sorted(tuple(sorted(tuple(block) for block in blocks)) for blocks in found)


def is_finer(fine, coarse):
    return all(any(set(block) <= set(other) for other in coarse) for block in fine)


def is_kept_slowly(turnings, parting):
    return all(any({turning[seat] for seat in block} <= set(other) for other in parting)
               for turning in turnings for block in parting)


def least_of(partings_told):
    """The one that is finer than all the others."""
    return [one for one in partings_told if all(is_finer(one, other) for other in partings_told)][0]


class Partings(Case):
    def test_good_ones(self):
        self.assertEqual([len(partings(many)) for many in range(1, 7)], [1, 2, 5, 15, 52, 203])
        for many in range(1, 7):
            for parting in partings(many):
                self.assertIs(is_parting(many, parting), True)
                self.assertIs(is_parting(many + 1, parting), False)
        self.assertIs(is_parting(seats=8, thing=((0, 3, 7), (1, 2), (4, 5, 6))), True)

    def test_no_parting(self):
        for thing in NO_PARTINGS:
            self.assertIs(is_parting(4, thing), False)
        self.assertIs(is_parting(1, ((0,),)), True)
        self.assertIs(is_parting(1, ((False,),)), False)
        self.assertIs(is_parting(2, ((0, True),)), False)

    def test_every_row_of_small_rows(self):
        rows = [row for many in range(4) for row in itertools.product(range(3), repeat=many)]
        told = [thing for many in range(4) for thing in itertools.product(rows, repeat=many) if is_parting(3, thing)]
        self.assertEqual(sorted(told), partings(3))

    def test_seats_are_refused(self):
        for seats in NO_SEATS:
            self.refused(BadTable, "seats", is_parting, seats, None)
            self.refused(BadTable, "seats", is_parting, seats, ((0,),))


class Kept(Case):
    def test_by_hand(self):
        for parting in (FINEST, WHOLE, ACROSS):
            self.assertIs(is_kept(ring(4), parting), True)
        for parting in (PAIRS, ((0, 3), (1, 2)), ((0,), (1, 2, 3)), ((0, 2), (1,), (3,))):
            self.assertIs(is_kept(ring(4), parting), False)
        self.assertIs(is_kept(turnings=CALM_FOUR, thing=((0, 2), (1,), (3,))), True)
        self.assertIs(is_kept(eight_by_halves(), ((0, 1), (2, 3), (4, 5), (6, 7))), True)
        self.assertIs(is_kept(eight_by_halves(), ((0, 2), (1, 3), (4, 6), (5, 7))), False)

    def test_of_anything(self):
        for thing in NO_PARTINGS:
            self.assertIs(is_kept(CALM_FOUR, thing), False)
            self.assertIs(is_kept(ring(4), thing), False)
        self.assertIs(is_kept(ring(4), ((0, 1, 2),)), False)
        self.assertIs(is_kept(ring(4), ((0, 1, 2, 3, 4),)), False)

    def test_by_what_it_means(self):
        for turnings in LOTS:
            for parting in partings(len(turnings[0])):
                self.assertIs(is_kept(turnings, parting), is_kept_slowly(turnings, parting))

    def test_nested_ones_keep_their_blocks(self):
        for inner, outer in ((ring(3), ring(2)), (ring(2), ring(3)), (mirrored(4), ring(2)), (ring(2), mirrored(4))):
            wide = len(inner[0])
            blocks = tuple(tuple(range(wide * at, wide * at + wide)) for at in range(len(outer[0])))
            self.assertIs(is_kept(nested(inner, outer), blocks), True)

    def test_refused(self):
        self.refuses_no_turnings(is_kept, None)


class KeptWith(Case):
    def test_by_hand(self):
        self.assertEqual(kept_with(ring(4), 0, 2), ACROSS)
        self.assertEqual(kept_with(ring(4), 0, 1), WHOLE)
        self.assertEqual(kept_with(ring(4), 3, 3), FINEST)
        self.assertEqual(kept_with(CALM_FOUR, 1, 3), ((0,), (1, 3), (2,)))
        self.assertEqual(kept_with(turnings=ring(6), seat=4, goal=1), ((0, 3), (1, 4), (2, 5)))
        self.assertEqual(kept_with(ring(6), 1, 5), ((0, 2, 4), (1, 3, 5)))
        self.assertEqual(kept_with(ring(8), 2, 6), ((0, 4), (1, 5), (2, 6), (3, 7)))
        self.assertEqual(kept_with(eight_by_halves(), 7, 6), ((0, 1), (2, 3), (4, 5), (6, 7)))
        self.assertEqual(kept_with(eight_by_halves(), 4, 6), ((0, 1, 2, 3), (4, 5, 6, 7)))
        self.assertEqual(kept_with(side_by_side(ring(2), ring(3)), 1, 3), ((0, 1, 2, 3, 4),))

    def test_it_is_the_least(self):
        for turnings in LOTS:
            many = len(turnings[0])
            kept = [parting for parting in partings(many) if is_kept_slowly(turnings, parting)]
            for seat, goal in itertools.product(range(many), repeat=2):
                both = [parting for parting in kept if any(seat in block and goal in block for block in parting)]
                self.assertEqual(kept_with(turnings, seat, goal), least_of(both))

    def test_refused(self):
        self.refuses_no_turnings(kept_with, None, None)
        for seat in NO_SEAT_OF_THREE:
            self.barred(OutOfPlace, kept_with, ring(3), seat, 0)
            self.barred(OutOfPlace, kept_with, ring(3), 0, seat)


class Joined(Case):
    def test_by_hand(self):
        self.assertEqual(joined_of(4, PAIRS, ACROSS), WHOLE)
        self.assertEqual(joined_of(4, FINEST, ACROSS), ACROSS)
        self.assertEqual(joined_of(4, ACROSS, WHOLE), WHOLE)
        self.assertEqual(joined_of(1, ((0,),), ((0,),)), ((0,),))
        self.assertEqual(joined_of(5, ((0, 4), (1,), (2, 3)), ((0,), (1, 3), (2,), (4,))), ((0, 4), (1, 2, 3)))
        self.assertEqual(joined_of(seats=8, first=((0, 7), (1, 6), (2, 5), (3, 4)),
                                   later=((0,), (1, 2), (3,), (4,), (5,), (6, 7))), ((0, 1, 2, 5, 6, 7), (3, 4)))

    def test_it_is_the_finest_above_both(self):
        for many in range(1, 5):
            for first, later in itertools.product(partings(many), repeat=2):
                above = [one for one in partings(many) if is_finer(first, one) and is_finer(later, one)]
                self.assertEqual(joined_of(many, first, later), least_of(above))

    def test_of_kept_ones_it_is_kept(self):
        for turnings in LOTS + [ring(6), nested(ring(2), ring(3))]:
            for first, later in itertools.product(all_kept(turnings), repeat=2):
                self.assertIs(is_kept(turnings, joined_of(len(turnings[0]), first, later)), True)

    def test_refused(self):
        for seats in NO_SEATS:
            self.refused(BadTable, "seats", joined_of, seats, None, None)
        for thing in NO_PARTINGS:
            self.barred(OutOfPlace, joined_of, 4, thing, PAIRS)
            self.barred(OutOfPlace, joined_of, 4, PAIRS, thing)
        self.barred(OutOfPlace, joined_of, 3, PAIRS, PAIRS)
        self.barred(OutOfPlace, joined_of, 5, PAIRS, PAIRS)


class AllKept(Case):
    def test_by_hand(self):
        self.assertEqual(all_kept(ring(1)), [((0,),)])
        self.assertEqual(all_kept(ring(2)), [((0,), (1,)), ((0, 1),)])
        self.assertEqual(all_kept(ring(4)), [FINEST, WHOLE, ACROSS])
        self.assertEqual(all_kept(turnings=all_orders(5)), [((0,), (1,), (2,), (3,), (4,)), ((0, 1, 2, 3, 4),)])
        self.assertEqual(all_kept(ring(6)), [((0,), (1,), (2,), (3,), (4,), (5,)), ((0, 1, 2, 3, 4, 5),),
                                             ((0, 2, 4), (1, 3, 5)), ((0, 3), (1, 4), (2, 5))])
        self.assertEqual(all_kept(((0, 1, 2),)), partings(3))
        self.assertEqual(all_kept((tuple(range(6)),)), partings(6))

    def test_by_what_they_are(self):
        for turnings in LOTS + [mirrored(5), mirrored(6), nested(ring(3), ring(2)), nested(ring(2), mirrored(3))]:
            kept = [one for one in partings(len(turnings[0])) if is_kept_slowly(turnings, one)]
            self.assertEqual(all_kept(turnings), kept)

    def test_what_is_told_may_be_spoilt(self):
        told = all_kept(ring(4))
        told.pop()
        told[0] = None
        self.assertEqual(all_kept(ring(4)), [FINEST, WHOLE, ACROSS])

    def test_refused(self):
        self.refuses_no_turnings(all_kept)
        self.barred(TooGreat, all_kept, (tuple(range(7)),))
        self.barred(TooGreat, all_kept, ring(7))
        self.barred(TooGreat, all_kept, eight_by_halves())


class AmongAndWithin(Case):
    def test_by_hand(self):
        self.assertEqual(among(ring(4), ACROSS), ((0, 1), (1, 0)))
        self.assertEqual(within(ring(4), ACROSS), ((0, 1, 2, 3), (2, 3, 0, 1)))
        self.assertEqual(among(ring(6), ((0, 3), (1, 4), (2, 5))), ring(3))
        self.assertEqual(within(turnings=ring(6), parting=((0, 2, 4), (1, 3, 5))),
                         ((0, 1, 2, 3, 4, 5), (2, 3, 4, 5, 0, 1), (4, 5, 0, 1, 2, 3)))
        self.assertEqual(among(turnings=mirrored(4), parting=WHOLE), ((0,),))
        self.assertEqual(among(((0, 1, 2, 3), (0, 1, 3, 2)), ((0, 1), (2,), (3,))), ((0, 1, 2), (0, 2, 1)))
        self.assertEqual(among(((0, 1, 2, 3), (3, 1, 2, 0)), ((0, 3), (1,), (2,))), ((0, 1, 2),))

    def test_by_what_they_are(self):
        for turnings in LOTS:
            for parting in all_kept(turnings):
                homes = {seat: at for at, block in enumerate(parting) for seat in block}
                brought = [tuple(homes[turning[block[-1]]] for block in parting) for turning in turnings]
                inside, between = within(turnings, parting), among(turnings, parting)
                self.assertEqual(between, tuple(sorted(set(brought))))
                self.assertEqual(inside, tuple(turning for turning, way in zip(turnings, brought)
                                               if way == tuple(range(len(parting)))))
                self.assertIs(are_turnings(between), True)
                self.assertIs(are_part(turnings, inside), True)
                self.assertEqual(len(between) * len(inside), len(turnings))
                self.assertEqual(among(turnings, tuple((seat,) for seat in range(len(turnings[0])))), turnings)
                self.assertEqual(within(turnings, (tuple(range(len(turnings[0]))),)), turnings)

    def test_nested_ones(self):
        for inner, outer in ((ring(3), ring(2)), (ring(2), ring(3)), (mirrored(4), ring(2)), (ring(2), mirrored(4)),
                             (ring(1), ring(8)), (ring(8), ring(1))):
            wide, many = len(inner[0]), len(outer[0])
            blocks = tuple(tuple(range(wide * at, wide * at + wide)) for at in range(many))
            self.assertEqual(among(nested(inner, outer), blocks), outer)
            self.assertEqual(within(nested(inner, outer), blocks), nested(inner, (tuple(range(many)),)))
            self.assertEqual(len(within(nested(inner, outer), blocks)), len(inner) ** many)

    def test_more_than_six_seats(self):
        fours = ((0, 1, 2, 3), (4, 5, 6, 7))
        self.assertEqual(among(eight_by_halves(), fours), ((0, 1), (1, 0)))
        self.assertEqual(within(eight_by_halves(), fours), side_by_side(nested(ring(2), ring(2)), nested(ring(2), ring(2))))

    def test_refused(self):
        self.refuses_no_turnings(among, None)
        self.refuses_no_turnings(within, None)
        for thing in NO_PARTINGS + [PAIRS, ((0, 3), (1, 2)), ((0,), (1, 2, 3)), ((0, 1, 2),), ((0, 1, 2, 3, 4),)]:
            self.barred(OutOfPlace, among, ring(4), thing)
            self.barred(OutOfPlace, within, ring(4), thing)
        for thing in NO_PARTINGS:
            self.barred(OutOfPlace, among, CALM_FOUR, thing)
            self.barred(OutOfPlace, within, CALM_FOUR, thing)
        self.barred(OutOfPlace, among, closure([(1, 0, 2)], 3), ((0,), (1, 2)))


if __name__ == "__main__":
    unittest.main()
