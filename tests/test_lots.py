"""Point 23: lots, the whole lot, what stands behind a deed, kinds of deeds."""

import itertools
import unittest

from tests.helpers import (
    CALM_ONE, ODD_THINGS, SMALL_TABLES, SWAP, TURN_THREE, Case, all_orders, closure, eight_by_halves, slow_behind,
    slow_free, slow_orbit, slow_orbits, slow_stands, tuples_of)
from unseenturn import lots
from unseenturn.errors import BadLot, BadStand, BadTable, BadWish, TooGreat
from unseenturn.lots import behind, kinds_of_deeds, need_lot, whole_lot
from unseenturn.wishes import alike, noughts, wish_by

BAD_TABLE = (2, ((1, 0),))
RING_FOUR = (2, closure([(1, 2, 3, 0)], 4))
FORTY = (4, ((0, 1, 2), (1, 0, 2)))
FORTY_TWO = (2, closure([(1, 0, 3, 2, 5, 4, 6), (3, 1, 2, 0, 4, 5, 6)], 7))
TINY_TABLES = [table for table in SMALL_TABLES if len(slow_orbits(table)) <= 6]


def few_wishes(table):
    return tuples_of(slow_orbits(table), 2)[1:] + [alike(table), tuple(slow_orbits(table))]


class Lots(Case):
    def test_limits_are_told(self):
        self.assertEqual((lots.MOST_UNWISHED, lots.MOST_ORBITS), (12, 40))

    def test_good_ones(self):
        for table in TINY_TABLES:
            for wish in few_wishes(table):
                for lot in tuples_of(slow_free(table, wish), 6):
                    self.assertIsNone(need_lot(table, wish, lot))

    def bad_lot(self, number, lot, wish=((0, 0), (1, 1)), table=SWAP):
        self.refused(BadLot, number, need_lot, table, wish, lot)
        self.refused(BadLot, number, behind, table, wish, lot, None)

    def test_no_tuple(self):
        for thing in (None, True, False, 0, "", "00", [], [(0, 1)], {}, {(0, 1)}, {(0, 1): 1}, 1.0, object(), int, range(2)):
            self.bad_lot(None, thing)

    def test_no_least_stand(self):
        for thing in ODD_THINGS + [(0,), (0, 0, 1), [0, 1], (0, 3), (0, True), (1, 0), (2, 1)]:
            self.bad_lot(0, (thing,))
            self.bad_lot(0, (thing, (0, 0)))
            self.bad_lot(1, ((0, 1), thing))
            self.bad_lot(2, ((0, 1), (0, 2), thing, (0, 0)))
        self.bad_lot(0, (0, 1))
        self.bad_lot(0, ((1, 0, 1),), noughts(TURN_THREE), TURN_THREE)

    def test_one_that_is_wished(self):
        self.bad_lot(0, ((0, 0),))
        self.bad_lot(0, ((1, 1), (0, 1)))
        self.bad_lot(1, ((0, 1), (1, 1), (1, 0)))
        self.bad_lot(3, ((0, 1), (0, 2), (1, 2), (1, 1)))
        self.assertIsNone(need_lot(SWAP, ((0, 0),), ((1, 1),)))

    def test_twice_or_not_rising(self):
        self.bad_lot(1, ((0, 1), (0, 1)))
        self.bad_lot(1, ((0, 2), (0, 1)))
        self.bad_lot(2, ((0, 1), (1, 2), (0, 2)))
        self.bad_lot(3, ((0, 1), (0, 2), (1, 2), (1, 2), None))

    def test_whole_lot(self):
        self.assertEqual(whole_lot(SWAP, ((0, 0), (1, 1))), ((0, 1), (0, 2), (1, 2), (2, 2)))
        self.assertEqual(whole_lot(CALM_ONE, ((0,),)), ((1,),))
        self.assertEqual(whole_lot(CALM_ONE, ((0,), (1,))), ())
        for table in SMALL_TABLES:
            for wish in few_wishes(table):
                self.assertEqual(whole_lot(table, wish), tuple(slow_free(table, wish)))
            self.assertEqual(whole_lot(table, tuple(slow_orbits(table))), ())


class Behind(Case):
    def test_by_hand(self):
        wish = alike(RING_FOUR)
        # 0101 and 1010 by 0101: 0000 and 1111; by 0011: 0110 and 1001.
        self.assertEqual(behind(RING_FOUR, wish, ((0, 1, 0, 1),), (0, 1, 0, 1)), ())
        self.assertEqual(behind(RING_FOUR, wish, ((0, 1, 0, 1),), (0, 0, 1, 1)), ((0, 0, 1, 1),))
        self.assertEqual(behind(RING_FOUR, wish, ((0, 0, 1, 1),), (0, 0, 1, 1)), ((0, 1, 0, 1),))
        self.assertEqual(behind(RING_FOUR, wish, ((0, 0, 1, 1), (0, 1, 0, 1)), (0, 0, 1, 1)), ((0, 0, 1, 1), (0, 1, 0, 1)))
        self.assertEqual(behind(SWAP, ((0, 0),), ((0, 1),), (0, 2)), ((1, 2),))
        self.assertEqual(behind(SWAP, ((0, 0),), (), (0, 2)), ())

    def test_against_all_stands_and_turnings(self):
        for table in TINY_TABLES:
            for wish in few_wishes(table)[::3]:
                for lot in tuples_of(slow_free(table, wish), 2) + [tuple(slow_free(table, wish))]:
                    for deed in slow_orbits(table):
                        told = behind(table, wish, lot, deed)
                        self.assertEqual(told, slow_behind(table, wish, lot, deed))
                        self.assertIsNone(need_lot(table, wish, told))

    def test_deeds_of_one_orbit_do_the_same(self):
        for table in SMALL_TABLES[3:10]:
            for lot in tuples_of(slow_free(table, noughts(table)), 1):
                for deed in slow_stands(table):
                    self.assertEqual(behind(table, noughts(table), lot, deed),
                                     slow_behind(table, noughts(table), lot, deed))

    def test_two_lots_together(self):
        wish = alike(RING_FOUR)
        free = tuples_of(slow_free(RING_FOUR, wish), 4)
        for one, two in itertools.product(free, free):
            both = tuple(sorted(set(one) | set(two)))
            for deed in slow_orbits(RING_FOUR):
                whole = set(behind(RING_FOUR, wish, one, deed)) | set(behind(RING_FOUR, wish, two, deed))
                self.assertEqual(set(behind(RING_FOUR, wish, both, deed)), whole)

    def test_by_names(self):
        self.assertEqual(behind(table=SWAP, wish=((0, 0),), lot=((0, 1),), deed=(0, 2)), ((1, 2),))
        self.assertIsNone(need_lot(table=SWAP, wish=((0, 0),), lot=()))
        self.assertEqual(whole_lot(table=CALM_ONE, wish=((0,),)), ((1,),))
        self.assertEqual(kinds_of_deeds(table=CALM_ONE, wish=((0,),)), (((0,),), ((1,),)))


class Kinds(Case):
    def test_by_hand(self):
        self.assertEqual(kinds_of_deeds(TURN_THREE, noughts(TURN_THREE)),
                         (((0, 0, 0),), ((0, 0, 1),), ((0, 1, 1),), ((1, 1, 1),)))
        # 001 and 011 stay what they are by 011, all but what comes to a wish; by 001 and by 111 the one becomes the other.
        self.assertEqual(kinds_of_deeds(TURN_THREE, alike(TURN_THREE)),
                         (((0, 0, 0), (0, 1, 1)), ((0, 0, 1), (1, 1, 1))))
        self.assertEqual(kinds_of_deeds(RING_FOUR, alike(RING_FOUR)),
                         (((0, 0, 0, 0),), ((0, 0, 0, 1), (0, 1, 1, 1)), ((0, 0, 1, 1),), ((0, 1, 0, 1),), ((1, 1, 1, 1),)))
        self.assertEqual(kinds_of_deeds(CALM_ONE, ((0,), (1,))), (((0,), (1,)),))
        self.assertEqual(kinds_of_deeds((3, ((0,),)), ((1,),)), (((0,),), ((1,),), ((2,),)))

    def test_against_what_stands_behind_each_orbit(self):
        for table in SMALL_TABLES:
            for wish in few_wishes(table)[::5] + [alike(table)]:
                free = slow_free(table, wish)
                if len(free) <= 12:
                    kinds = {}
                    for deed in slow_orbits(table):
                        left = tuple(slow_behind(table, wish, (orbit,), deed) for orbit in free)
                        kinds.setdefault(left, []).append(deed)
                    self.assertEqual(kinds_of_deeds(table, wish), tuple(sorted(tuple(kind) for kind in kinds.values())))

    def test_all_of_one_kind_where_all_is_wished(self):
        for table in SMALL_TABLES:
            orbits = tuple(slow_orbits(table))
            if len(orbits) <= 40:
                self.assertEqual(kinds_of_deeds(table, orbits), (orbits,))

    def test_more_than_twelve_that_are_not_wished(self):
        table = (2, closure([(1, 2, 3, 4, 5, 0)], 6))
        orbits = slow_orbits(table)
        self.assertEqual(len(orbits), 14)
        self.barred(TooGreat, kinds_of_deeds, table, tuple(orbits[:1]))
        self.assertEqual(len(kinds_of_deeds(table, tuple(orbits[:2])[:2])) > 0, True)
        self.assertEqual(sum(len(kind) for kind in kinds_of_deeds(table, tuple(orbits[:2]))), 14)
        self.barred(TooGreat, kinds_of_deeds, (2, ((0, 1, 2, 3),)), tuple(slow_orbits((2, ((0, 1, 2, 3),)))[:3]))
        self.assertEqual(len(kinds_of_deeds((2, ((0, 1, 2, 3),)), tuple(slow_orbits((2, ((0, 1, 2, 3),)))[:4]))), 16)

    def test_more_than_forty_in_all(self):
        for table, many in ((FORTY, 40), (FORTY_TWO, 42), ((9, ((0, 1), (1, 0))), 45), ((9, ((0, 1),)), 81)):
            orbits = slow_orbits(table)
            self.assertEqual(len(orbits), many)
            for out in (0, 1, 12):
                if many == 40:
                    self.assertEqual(sum(len(kind) for kind in kinds_of_deeds(table, tuple(orbits[out:]))), 40)
                else:
                    self.barred(TooGreat, kinds_of_deeds, table, tuple(orbits[out:]))
            self.barred(TooGreat, kinds_of_deeds, table, tuple(orbits[13:]))


class Refusals(Case):
    def test_bad_tables_come_ahead_of_all(self):
        for call, args in ((need_lot, (None, None)), (whole_lot, (None,)), (behind, (None, None, None)),
                           (kinds_of_deeds, (None,))):
            self.refused(BadTable, "closed", call, BAD_TABLE, *args)
            self.refused(BadTable, None, call, 7, *args)

    def test_no_wish_comes_next(self):
        for call, args in ((need_lot, (None,)), (whole_lot, ()), (behind, (None, None)), (kinds_of_deeds, ())):
            self.refused(BadWish, None, call, SWAP, (), *args)
            self.refused(BadWish, 0, call, SWAP, ((1, 0),), *args)
            self.refused(BadWish, 1, call, SWAP, ((0, 1), (0, 0)), *args)
            self.refused(BadWish, 1, call, FORTY_TWO, ((1,) * 7, (0,) * 7), *args)

    def test_no_lot_comes_ahead_of_no_stand(self):
        self.refused(BadLot, None, behind, SWAP, ((0, 0),), None, None)
        self.refused(BadLot, 0, behind, SWAP, ((0, 0),), ((0, 0),), (3, 3))
        for thing in ODD_THINGS + [(0,), [0, 0]]:
            self.refused(BadStand, None, behind, SWAP, ((0, 0),), (), thing)
        self.refused(BadStand, 1, behind, SWAP, ((0, 0),), ((0, 1),), (0, 3))


if __name__ == "__main__":
    unittest.main()
