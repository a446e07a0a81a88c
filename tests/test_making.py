"""Points 11 and 12: what is MADE by TURNINGS; rings, TURNINGS side by side, nested ones."""

import itertools
import unittest

from tests.helpers import NO_SEATS, NO_TURNINGS, ODD_THINGS, Case, all_orders, closure, eight_by_halves
from tests.helpers import small_lots_of_turnings
from unseenturn.errors import BadTable, BadTurning, TooGreat
from unseenturn.making import made, mirrored, nested, ring, side_by_side
from unseenturn.turnings import are_turnings

HALVES = [(1, 0, 2, 3, 4, 5, 6, 7), (2, 3, 0, 1, 4, 5, 6, 7), (4, 5, 6, 7, 0, 1, 2, 3)]
# A turning of three seats and all of four: 6 * 24 are 144.
SIX_AND_24 = [(1, 2, 0, 3, 4, 5, 6), (1, 0, 2, 3, 4, 5, 6), (0, 1, 2, 4, 5, 6, 3), (0, 1, 2, 4, 3, 5, 6)]
TWO_ALONE = ((0, 1), (1, 0))


class Made(Case):
    def test_of_none(self):
        for seats in range(1, 9):
            self.assertEqual(made(seats, ()), (tuple(range(seats)),))
            self.assertEqual(made(seats, []), (tuple(range(seats)),))

    def test_of_one(self):
        self.assertEqual(made(1, ((0,),)), ((0,),))
        self.assertEqual(made(3, ((1, 2, 0),)), ((0, 1, 2), (1, 2, 0), (2, 0, 1)))
        self.assertEqual(made(5, ((1, 2, 0, 4, 3),)), ((0, 1, 2, 3, 4), (0, 1, 2, 4, 3), (1, 2, 0, 3, 4), (1, 2, 0, 4, 3),
                                                       (2, 0, 1, 3, 4), (2, 0, 1, 4, 3)))

    def test_of_several_in_any_order(self):
        self.assertEqual(made(3, ((1, 2, 0), (1, 0, 2))), all_orders(3))
        for makers in itertools.permutations([(1, 0, 2, 3), (0, 1, 3, 2), (2, 3, 0, 1)]):
            self.assertEqual(made(4, makers), closure(makers, 4))
            self.assertEqual(len(made(4, list(makers))), 8)

    def test_one_of_them_twice(self):
        self.assertEqual(made(3, ((1, 2, 0), (1, 2, 0))), ((0, 1, 2), (1, 2, 0), (2, 0, 1)))
        self.assertEqual(made(2, [(0, 1), (1, 0), (0, 1), (1, 0)]), TWO_ALONE)

    def test_against_a_slow_reckoning(self):
        for first in all_orders(4):
            for later in all_orders(4):
                self.assertEqual(made(4, (first, later)), closure([first, later], 4))

    def test_turnings_make_themselves(self):
        for turnings in small_lots_of_turnings():
            self.assertEqual(made(len(turnings[0]), turnings), turnings)
            self.assertEqual(made(len(turnings[0]), list(reversed(turnings))), turnings)

    def test_up_to_128(self):
        self.assertEqual(made(8, HALVES), eight_by_halves())
        self.assertEqual(made(8, eight_by_halves()), eight_by_halves())
        self.assertEqual(len(made(5, [(1, 2, 3, 4, 0), (1, 0, 2, 3, 4)])), 120)
        self.assertEqual(made(5, all_orders(5)), all_orders(5))

    def test_too_great(self):
        self.barred(TooGreat, made, 7, SIX_AND_24)
        self.barred(TooGreat, made, 6, [(1, 2, 3, 4, 5, 0), (1, 0, 2, 3, 4, 5)])
        self.barred(TooGreat, made, 6, all_orders(6))
        self.barred(TooGreat, made, 8, [(1, 2, 3, 4, 5, 6, 7, 0), (1, 0, 2, 3, 4, 5, 6, 7)])
        self.barred(TooGreat, made, 8, HALVES + [(0, 2, 1, 3, 4, 5, 6, 7)])

    def test_what_is_handed_in_stays(self):
        makers = [(1, 2, 0), (1, 0, 2)]
        told = made(3, makers)
        self.assertEqual(makers, [(1, 2, 0), (1, 0, 2)])
        makers.append(None)
        self.assertEqual(told, all_orders(3))
        self.assertEqual(made(seats=3, turnings=makers[:2]), told)

    def test_seats_are_refused_first(self):
        for seats in NO_SEATS:
            self.refused(BadTable, "seats", made, seats, None)
            self.refused(BadTable, "seats", made, seats, ((0,),))

    def test_no_row(self):
        for thing in (None, True, 0, "", "01", {}, {(0, 1): 0}, {(0, 1)}, range(0), object()):
            self.refused(BadTurning, None, made, 2, thing)

    def test_the_first_that_is_no_turning(self):
        for thing in ODD_THINGS + [(), (0,), (0, 1, 2), [0, 1]]:
            self.refused(BadTurning, None, made, 2, (thing,))
            self.refused(BadTurning, None, made, 2, [(1, 0), thing, (5, 5)])
        for thing, number in (((0, 1, 1), 2), ((3, 0, 0), 0), ((1, 1, 1), 1), ((False, 1, 2), 0), ((0, 1, 2.0), 2)):
            self.refused(BadTurning, number, made, 3, ((1, 2, 0), thing, None))
            self.refused(BadTurning, number, made, 3, [thing, (0,)])

    def test_what_is_no_turning_comes_ahead_of_too_great(self):
        self.refused(BadTurning, 6, made, 7, SIX_AND_24 + [(0, 1, 2, 3, 4, 5, 7)])


class Rings(Case):
    def test_by_hand(self):
        self.assertEqual(ring(1), ((0,),))
        self.assertEqual(mirrored(1), ((0,),))
        self.assertEqual(ring(2), TWO_ALONE)
        self.assertEqual(mirrored(2), TWO_ALONE)
        self.assertEqual(ring(3), ((0, 1, 2), (1, 2, 0), (2, 0, 1)))
        self.assertEqual(mirrored(3), all_orders(3))
        self.assertEqual(ring(4), ((0, 1, 2, 3), (1, 2, 3, 0), (2, 3, 0, 1), (3, 0, 1, 2)))
        self.assertEqual(mirrored(4), ((0, 1, 2, 3), (0, 3, 2, 1), (1, 0, 3, 2), (1, 2, 3, 0), (2, 1, 0, 3),
                                       (2, 3, 0, 1), (3, 0, 1, 2), (3, 2, 1, 0)))

    def test_of_1_to_8_seats(self):
        for seats in range(1, 9):
            shift = tuple((seat + 1) % seats for seat in range(seats))
            flip = tuple((-seat) % seats for seat in range(seats))
            self.assertEqual(ring(seats), closure([shift], seats))
            self.assertEqual(mirrored(seats), closure([shift, flip], seats))
            self.assertEqual(len(ring(seats)), seats)
            self.assertEqual(len(mirrored(seats)), seats if seats < 3 else 2 * seats)
            self.assertIs(are_turnings(ring(seats)), True)
            self.assertIs(are_turnings(mirrored(seats)), True)
        self.assertEqual(ring(seats=3), ring(3))
        self.assertEqual(mirrored(seats=3), mirrored(3))

    def test_refused(self):
        for seats in NO_SEATS:
            self.refused(BadTable, "seats", ring, seats)
            self.refused(BadTable, "seats", mirrored, seats)


class SideBySide(Case):
    def test_by_hand(self):
        self.assertEqual(side_by_side(ring(1), ring(1)), ((0, 1),))
        self.assertEqual(side_by_side(ring(2), ring(1)), ((0, 1, 2), (1, 0, 2)))
        self.assertEqual(side_by_side(ring(1), ring(2)), ((0, 1, 2), (0, 2, 1)))
        self.assertEqual(side_by_side(first=ring(2), later=ring(3)), (
            (0, 1, 2, 3, 4), (0, 1, 3, 4, 2), (0, 1, 4, 2, 3), (1, 0, 2, 3, 4), (1, 0, 3, 4, 2), (1, 0, 4, 2, 3)))

    def test_each_is_turned_for_itself(self):
        for first in small_lots_of_turnings():
            for later in small_lots_of_turnings():
                many = len(first[0])
                told = side_by_side(first, later) if len(first) * len(later) <= 128 else ()
                self.assertEqual(list(told), sorted(one + tuple(many + seat for seat in other)
                                                    for one in first for other in later if told))

    def test_up_to_8_seats_and_128(self):
        self.assertEqual(len(side_by_side(mirrored(4), mirrored(4))), 64)
        self.assertEqual(len(side_by_side(all_orders(4), ring(4))), 96)
        self.assertEqual(len(side_by_side(all_orders(5), ring(1))), 120)
        self.assertEqual(len(side_by_side(nested(ring(2), ring(3)), mirrored(2))), 48)
        self.assertIs(are_turnings(side_by_side(all_orders(4), ring(4))), True)

    def test_too_great(self):
        self.barred(TooGreat, side_by_side, ring(4), ring(5))
        self.barred(TooGreat, side_by_side, ring(8), ring(1))
        self.barred(TooGreat, side_by_side, ring(8), ring(8))
        self.barred(TooGreat, side_by_side, all_orders(4), mirrored(4))
        self.barred(TooGreat, side_by_side, all_orders(3), all_orders(4))
        self.barred(TooGreat, side_by_side, all_orders(5), ring(2))

    def test_the_first_that_is_none_is_refused(self):
        self.refuses_no_turnings(side_by_side, None)
        for thing, place in NO_TURNINGS:
            self.refused(BadTable, place, side_by_side, ring(8), thing)


class Nested(Case):
    def test_by_hand(self):
        self.assertEqual(nested(ring(2), ring(2)), ((0, 1, 2, 3), (0, 1, 3, 2), (1, 0, 2, 3), (1, 0, 3, 2),
                                                    (2, 3, 0, 1), (2, 3, 1, 0), (3, 2, 0, 1), (3, 2, 1, 0)))
        self.assertEqual(nested(inner=((0, 1, 2),), outer=ring(2)), ((0, 1, 2, 3, 4, 5), (3, 4, 5, 0, 1, 2)))
        self.assertEqual(nested(ring(2), ((0, 1),)), ((0, 1, 2, 3), (0, 1, 3, 2), (1, 0, 2, 3), (1, 0, 3, 2)))
        self.assertEqual(nested(((0, 1),), ring(3)), ((0, 1, 2, 3, 4, 5), (2, 3, 4, 5, 0, 1), (4, 5, 0, 1, 2, 3)))

    def test_of_one_seat(self):
        for turnings in small_lots_of_turnings():
            self.assertEqual(nested(turnings, ring(1)), turnings)
            self.assertEqual(nested(ring(1), turnings), turnings)

    def test_blocks_are_put_on_blocks(self):
        for inner, outer in ((ring(3), ring(2)), (ring(2), ring(3)), (mirrored(3), ring(2)), (ring(2), mirrored(4))):
            wide, many = len(inner[0]), len(outer[0])
            slow = set()
            for rows in itertools.product(inner, repeat=many):
                for blocks in outer:
                    order = [None] * (wide * many)
                    for block in range(many):
                        for seat in range(wide):
                            order[block * wide + seat] = blocks[block] * wide + rows[block][seat]
                    slow.add(tuple(order))
            self.assertEqual(nested(inner, outer), tuple(sorted(slow)))
            self.assertEqual(len(nested(inner, outer)), len(inner) ** many * len(outer))
            self.assertIs(are_turnings(nested(inner, outer)), True)

    def test_up_to_8_seats_and_128(self):
        self.assertEqual(len(nested(ring(3), ring(2))), 18)
        self.assertEqual(len(nested(ring(2), ring(3))), 24)
        self.assertEqual(len(nested(mirrored(4), ring(2))), 128)
        self.assertEqual(nested(ring(2), nested(ring(2), ring(2))), eight_by_halves())
        self.assertEqual(nested(eight_by_halves(), ring(1)), eight_by_halves())
        self.assertEqual(nested(ring(1), eight_by_halves()), eight_by_halves())

    def test_too_great(self):
        self.barred(TooGreat, nested, ring(3), ring(3))
        self.barred(TooGreat, nested, ring(8), ring(2))
        self.barred(TooGreat, nested, eight_by_halves(), ring(8))
        self.barred(TooGreat, nested, ring(2), closure([(1, 2, 0, 3), (0, 2, 3, 1)], 4))
        self.barred(TooGreat, nested, closure([(1, 2, 0, 3), (0, 2, 3, 1)], 4), ring(2))
        self.barred(TooGreat, nested, all_orders(4), ((0, 1),))

    def test_the_first_that_is_none_is_refused(self):
        self.refuses_no_turnings(nested, None)
        for thing, place in NO_TURNINGS:
            self.refused(BadTable, place, nested, ring(8), thing)


if __name__ == "__main__":
    unittest.main()
