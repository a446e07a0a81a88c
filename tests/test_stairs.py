"""Points 40, 41 and 46: stairs of even wishes, steps, which lots can be sure, tables by primes."""

import unittest

from tests.helpers import (
    CALM_ONE, ODD_THINGS, SMALL_TABLES, SWAP, TURN_THREE, Case, all_orders, closure, slow_free, slow_minus, slow_orbits,
    slow_plus, slow_stands, slow_turned, slow_wished, tuples_of)
from unseenturn.errors import BadLot, BadStand, BadTable, BadWish, NotEven
from unseenturn.making import mirrored, nested, ring, side_by_side
from unseenturn.rows import fewest
from unseenturn.stairs import by_prime, can_be_sure, heart, step_of, steps
from unseenturn.wishes import alike, even_by, noughts, wish_by

BAD_TABLE = (2, ((1, 0),))
RING_FOUR = (2, closure([(1, 2, 3, 0)], 4))
UNEVEN = ((0, 1),)


def even_wishes(table):
    """Even wishes of one and of two told stands, each once, and that of all."""
    stands = slow_stands(table)
    told = [(one,) for one in stands[:12]] + [(one, two) for one in stands[:3] for two in stands[3:9]]
    return sorted({even_by(table, some) for some in told} | {alike(table), tuple(slow_orbits(table))})


def slow_heart(table, wish):
    told = slow_wished(table, wish)
    return {slow_minus(table, one, two) for one in told for two in told}


def slow_levels(table, wish):
    """W(0), W(1), .. TOP as point 40 says them, by all turnings."""
    found = [slow_heart(table, wish)]
    while True:
        more = {stand for stand in slow_stands(table)
                if all(slow_minus(table, slow_turned(turning, stand), stand) in found[-1] for turning in table[1])}
        if more == found[-1]:
            return found
        found.append(more)


class Stairs(Case):
    def test_heart_by_hand(self):
        self.assertEqual(heart(SWAP, ((0, 1), (2, 2))), ((0, 0), (1, 2), (2, 1)))
        self.assertEqual(heart(RING_FOUR, alike(RING_FOUR)), ((0, 0, 0, 0), (1, 1, 1, 1)))
        self.assertEqual(heart(CALM_ONE, ((1,),)), ((0,),))
        self.assertEqual(heart((4, ((0,),)), ((1,), (3,))), ((0,), (2,)))

    def test_steps_by_hand(self):
        # Alike; that and 0101; all of an even sum; all.
        self.assertEqual(steps(RING_FOUR, alike(RING_FOUR)), [2, 4, 8, 16])
        self.assertEqual(steps(RING_FOUR, noughts(RING_FOUR)), [1, 2, 4, 8, 16])
        self.assertEqual(steps(TURN_THREE, alike(TURN_THREE)), [2])
        self.assertEqual(steps(TURN_THREE, noughts(TURN_THREE)), [1, 2])
        self.assertEqual(steps(CALM_ONE, ((1,),)), [1, 2])
        self.assertEqual(steps(CALM_ONE, ((0,), (1,))), [2])
        # With threes: noughts, 12 and 21 with it are turned; 11 and 22 aren't.
        self.assertEqual(steps(SWAP, noughts(SWAP)), [1, 3])
        self.assertEqual(steps((4, ((0, 1), (1, 0))), noughts((4, ((0, 1), (1, 0))))), [1, 4, 8, 16])

    def test_step_by_hand(self):
        told = [step_of(RING_FOUR, alike(RING_FOUR), stand)
                for stand in ((0, 0, 0, 0), (1, 1, 1, 1), (1, 0, 1, 0), (1, 1, 0, 0), (0, 0, 1, 0), (1, 1, 0, 1))]
        self.assertEqual(told, [0, 0, 1, 2, 3, 3])
        self.assertEqual([step_of(SWAP, noughts(SWAP), stand) for stand in ((0, 0), (1, 1), (2, 2), (0, 1), (1, 2))],
                         [0, 1, 1, None, None])
        self.assertEqual(step_of(TURN_THREE, ((1, 1, 1),), (1, 1, 1)), 0)
        self.assertEqual(step_of(TURN_THREE, ((1, 1, 1),), (0, 0, 0)), 1)
        self.assertIsNone(step_of(TURN_THREE, ((1, 1, 1),), (0, 0, 1)))

    def test_against_the_words(self):
        for table in SMALL_TABLES:
            for wish in even_wishes(table):
                levels = slow_levels(table, wish)
                self.assertEqual(heart(table, wish), tuple(sorted(levels[0])))
                self.assertEqual(steps(table, wish), [len(level) for level in levels])

    def test_step_whichever_is_wished(self):
        for table in SMALL_TABLES[:8]:
            for wish in even_wishes(table):
                levels = slow_levels(table, wish)
                for one in slow_wished(table, wish):
                    for stand in slow_stands(table):
                        away = slow_minus(table, stand, one)
                        due = next((step for step, level in enumerate(levels) if away in level), None)
                        self.assertEqual(step_of(table, wish, stand), due)

    def test_levels_are_closed_and_turned_into_themselves(self):
        for table in SMALL_TABLES[3:7]:
            for wish in even_wishes(table):
                for level in slow_levels(table, wish):
                    self.assertEqual({slow_plus(table, one, two) for one in level for two in level}, level)
                    self.assertEqual({slow_turned(turning, one) for one in level for turning in table[1]}, level)

    def test_what_is_told_is_the_asker_s_own(self):
        told = steps(SWAP, noughts(SWAP))
        told.append(0)
        self.assertEqual(steps(SWAP, noughts(SWAP)), [1, 3])

    def test_by_names(self):
        self.assertEqual(heart(table=CALM_ONE, wish=((1,),)), ((0,),))
        self.assertEqual(steps(table=CALM_ONE, wish=((1,),)), [1, 2])
        self.assertEqual(step_of(table=CALM_ONE, wish=((1,),), stand=(0,)), 1)
        self.assertIs(can_be_sure(table=CALM_ONE, wish=((1,),), lot=((0,),)), True)
        self.assertEqual(by_prime(table=CALM_ONE), 1)


class Sure(Case):
    def test_by_hand(self):
        self.assertIs(can_be_sure(TURN_THREE, noughts(TURN_THREE), ((1, 1, 1),)), True)
        self.assertIs(can_be_sure(TURN_THREE, noughts(TURN_THREE), ((0, 0, 1),)), False)
        self.assertIs(can_be_sure(TURN_THREE, noughts(TURN_THREE), ((0, 0, 1), (1, 1, 1))), False)
        self.assertIs(can_be_sure(TURN_THREE, noughts(TURN_THREE), ()), True)
        self.assertIs(can_be_sure(RING_FOUR, alike(RING_FOUR), ((0, 0, 0, 1), (0, 0, 1, 1))), True)

    def test_against_fewest(self):
        for table in SMALL_TABLES:
            for wish in even_wishes(table):
                free = slow_free(table, wish)
                if len(free) <= 12 and len(slow_orbits(table)) <= 40:
                    for lot in tuples_of(free, 2) + [tuple(free)]:
                        sure = fewest(table, wish, lot=lot) is not None
                        self.assertIs(can_be_sure(table, wish, lot), sure)


class Primes(Case):
    def test_by_hand(self):
        for faces in range(2, 10):
            self.assertEqual(by_prime((faces, ((0,),))), 1)
            self.assertEqual(by_prime((faces, ((0, 1),))), 1)
        told = {(faces, many): by_prime((faces, ring(many))) for faces in range(2, 6) for many in range(2, 5)}
        self.assertEqual({key: prime for key, prime in told.items() if prime is not None},
                         {(2, 2): 2, (2, 4): 2, (3, 3): 3, (4, 2): 2, (4, 4): 2})
        self.assertEqual([by_prime((faces, ring(2))) for faces in range(2, 10)], [2, None, 2, None, None, None, 2, None])
        self.assertEqual([by_prime((faces, ring(3))) for faces in range(2, 10)], [None, 3, None, None, None, None, None, 3])
        self.assertEqual(by_prime((2, mirrored(8))), 2)
        self.assertEqual(by_prime((2, mirrored(6))), None)
        self.assertEqual(by_prime((2, ring(6))), None)
        self.assertEqual(by_prime((6, ring(2))), None)
        self.assertEqual(by_prime((3, all_orders(3))), None)
        self.assertEqual(by_prime((2, nested(mirrored(4), ring(2)))), 2)
        self.assertEqual(by_prime((3, side_by_side(ring(3), ring(3)))), 3)
        self.assertEqual(by_prime((5, ring(2))), None)

    def test_none_is_outside_just_there(self):
        tables = SMALL_TABLES + [(4, ring(3)), (4, ring(4)), (4, mirrored(4)), (9, ring(3)), (3, ring(6)), (2, mirrored(8)),
                                 (2, mirrored(6)), (3, ring(5)), (6, ((0, 1),)), (8, ring(2)), (6, ring(2)), (6, ring(3)),
                                 (3, side_by_side(ring(3), ring(3))), (2, nested(ring(2), ring(3)))]
        for table in tables:
            whole = table[0] ** len(table[1][0])
            for wish in (noughts(table), alike(table)):
                self.assertEqual(steps(table, wish)[-1] == whole, by_prime(table) is not None)

    def test_where_all_of_one_sum_are_wished_none_is_outside(self):
        for table in ((3, all_orders(3)), (2, all_orders(5)), (3, ring(5)), SWAP, (6, ring(3)), (4, all_orders(4))):
            for total in (0, 1):
                told = tuple(stand for stand in slow_stands(table) if sum(stand) % table[0] == total)
                wish = wish_by(table, told)
                self.assertEqual(steps(table, wish), [len(told), len(told) * table[0]])
                self.assertIs(can_be_sure(table, wish, tuple(slow_free(table, wish))), True)


class Refusals(Case):
    def test_bad_tables_come_ahead_of_all(self):
        for call, args in ((heart, (None,)), (steps, (None,)), (step_of, (None, None)), (can_be_sure, (None, None)),
                           (by_prime, ())):
            self.refused(BadTable, "closed", call, BAD_TABLE, *args)
            self.refused(BadTable, None, call, None, *args)

    def test_no_wish_comes_next_then_one_that_is_not_even(self):
        for call, args in ((heart, ()), (steps, ()), (step_of, (None,)), (can_be_sure, (None,))):
            for wish, number in ((None, None), ((), None), (((1, 0),), 0), (((0, 1), (0, 1)), 1), ((UNEVEN[0], 3), 1)):
                self.refused(BadWish, number, call, SWAP, wish, *args)
            self.barred(NotEven, call, SWAP, UNEVEN, *args)
            self.barred(NotEven, call, SWAP, ((0, 0), (1, 1)), *args)

    def test_no_stand_and_no_lot(self):
        for thing in ODD_THINGS + [(0,), [0, 0]]:
            self.refused(BadStand, None, step_of, SWAP, noughts(SWAP), thing)
        self.refused(BadStand, 1, step_of, SWAP, noughts(SWAP), (0, True))
        self.refused(BadLot, None, can_be_sure, SWAP, noughts(SWAP), [])
        self.refused(BadLot, None, can_be_sure, SWAP, noughts(SWAP), None)
        self.refused(BadLot, 0, can_be_sure, SWAP, noughts(SWAP), ((0, 0),))
        self.refused(BadLot, 1, can_be_sure, SWAP, noughts(SWAP), ((0, 1), (1, 0)))


if __name__ == "__main__":
    unittest.main()
