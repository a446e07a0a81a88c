"""Points 50 and 51: patterns, shapes, what can be felt, what is left."""

import itertools
import unittest

from tests.helpers import (
    CALM_ONE, ODD_THINGS, SMALL_TABLES, SWAP, TURN_THREE, Case, all_orders, slow_faces, slow_felts, slow_free, slow_left,
    slow_orbits, slow_patterns, slow_shapes, tuples_of)
from unseenturn.errors import BadFelt, BadLot, BadPattern, BadTable, BadWish
from unseenturn.feeling import felts, left_by, need_hands, need_pattern, pattern_turned, shape_of, shapes
from unseenturn.making import mirrored, ring
from unseenturn.wishes import alike, noughts

BAD_TABLE = (2, ((1, 0),))
RING_FOUR = (2, ring(4))
WISH = ((0, 0, 0, 0), (1, 1, 1, 1))
NO_PATTERNS = [
    ((), None), ([0, 1], None), (None, None), ({0: 1}, None), ("01", None), ((0, 0), 1), ((1, 0), 1), ((0, 4), 1),
    ((4,), 0), ((-1, 0), 0), ((True,), 0), ((0, True), 1), ((False,), 0), (("0",), 0), ((0.0,), 0), ((0, 1, 3, 2), 3),
    ((0, 2, 2), 2), ((0, 1, 2, 3, 4), 4), ((0, 1, 2, 3, 3), 4), ((None,), 0), (((0,),), 0), ((10 ** 30,), 0),
    ((0, [1]), 1), ((2, 1, 0), 1)]


class Patterns(Case):
    def test_good_ones(self):
        for many in range(1, 5):
            for pattern in slow_patterns(RING_FOUR, many):
                self.assertIsNone(need_pattern(RING_FOUR, pattern))
        self.assertIsNone(need_pattern((2, mirrored(8)), tuple(range(8))))
        self.assertIsNone(need_pattern(CALM_ONE, (0,)))

    def test_no_patterns(self):
        for thing, number in NO_PATTERNS:
            self.refused(BadPattern, number, need_pattern, RING_FOUR, thing)
        for thing in ODD_THINGS:
            number = 0 if isinstance(thing, tuple) and thing else None
            self.refused(BadPattern, number, need_pattern, RING_FOUR, thing)

    def test_hands(self):
        for table in (CALM_ONE, SWAP, RING_FOUR, (2, ring(8))):
            many = len(table[1][0])
            for hands in range(1, many + 1):
                self.assertIsNone(need_hands(table, hands))
            for thing in ODD_THINGS + [(1,), [1], many + 1, 9, 10 ** 30, -10 ** 30, "1"]:
                if type(thing) is not int or thing < 1 or thing > many:
                    self.refused(BadPattern, None, need_hands, table, thing)

    def test_turned_by_hand(self):
        self.assertEqual(pattern_turned((1, 2, 3, 0), (0, 3)), (0, 1))
        self.assertEqual(pattern_turned((1, 2, 3, 0), (1, 2)), (2, 3))
        self.assertEqual(pattern_turned((0, 1, 2, 3), (1, 2, 3)), (1, 2, 3))
        self.assertEqual(pattern_turned((2, 0, 1), (0,)), (2,))
        self.assertEqual(pattern_turned((3, 1, 0, 2), (0, 1, 2)), (0, 1, 3))

    def test_shapes_by_hand(self):
        self.assertEqual(shapes(RING_FOUR, 1), [(0,)])
        self.assertEqual(shapes(RING_FOUR, 2), [(0, 1), (0, 2)])
        self.assertEqual(shapes(RING_FOUR, 3), [(0, 1, 2)])
        self.assertEqual(shapes(RING_FOUR, 4), [(0, 1, 2, 3)])
        self.assertEqual(shapes((2, ((0, 1, 2),)), 2), [(0, 1), (0, 2), (1, 2)])
        self.assertEqual(shapes((2, ((0, 1, 2), (1, 0, 2))), 1), [(0,), (2,)])
        self.assertEqual(shapes((2, ring(6)), 3), [(0, 1, 2), (0, 1, 3), (0, 1, 4), (0, 2, 4)])
        self.assertEqual(shapes((2, mirrored(6)), 3), [(0, 1, 2), (0, 1, 3), (0, 2, 4)])
        self.assertEqual(shape_of(RING_FOUR, (1, 3)), (0, 2))
        self.assertEqual(shape_of(RING_FOUR, (0, 3)), (0, 1))
        self.assertEqual(shape_of((2, ring(6)), (0, 1, 5)), (0, 1, 2))
        self.assertEqual(shape_of((2, ring(6)), (0, 3, 4)), (0, 1, 3))

    def test_shapes_against_all_turnings(self):
        for table in SMALL_TABLES + [(2, mirrored(8)), (2, ring(7)), (2, all_orders(5))]:
            many = len(table[1][0])
            for hands in range(1, many + 1):
                found = shapes(table, hands)
                self.assertIs(type(found), list)
                self.assertEqual(found, slow_shapes(table, hands))
                self.assertEqual(found, sorted(set(found)))
                for pattern in slow_patterns(table, hands):
                    turned = [pattern_turned(turning, pattern) for turning in table[1]]
                    self.assertEqual(shape_of(table, pattern), min(turned))
                    self.assertIn(shape_of(table, pattern), found)

    def test_what_is_told_is_the_asker_s_own(self):
        shapes(RING_FOUR, 2).clear()
        self.assertEqual(shapes(RING_FOUR, 2), [(0, 1), (0, 2)])
        felts(RING_FOUR, WISH, ((0, 1, 0, 1),), (0, 1)).append(None)
        self.assertEqual(felts(RING_FOUR, WISH, ((0, 1, 0, 1),), (0, 1)), [(0, 1), (1, 0)])

    def test_by_names(self):
        self.assertIsNone(need_pattern(pattern=(0,), table=CALM_ONE))
        self.assertIsNone(need_hands(hands=1, table=CALM_ONE))
        self.assertEqual(pattern_turned(pattern=(0,), turning=(1, 0)), (1,))
        self.assertEqual(shape_of(pattern=(1,), table=SWAP), (0,))
        self.assertEqual(shapes(hands=1, table=SWAP), [(0,)])
        lot = ((0, 1, 0, 1),)
        self.assertEqual(felts(pattern=(0,), lot=lot, wish=WISH, table=RING_FOUR), [(0,), (1,)])
        self.assertEqual(
            left_by(setting=(1,), felt=(0,), pattern=(0,), lot=lot, wish=WISH, table=RING_FOUR), ((0, 1, 1, 1),))


class Left(Case):
    def test_by_hand(self):
        across, beside = ((0, 1, 0, 1),), ((0, 0, 1, 1),)
        self.assertEqual(felts(RING_FOUR, WISH, across, (0, 2)), [(0, 0), (1, 1)])
        self.assertEqual(felts(RING_FOUR, WISH, across, (1, 2)), [(0, 1), (1, 0)])
        self.assertEqual(felts(RING_FOUR, WISH, beside, (0, 2)), [(0, 1), (1, 0)])
        self.assertEqual(felts(RING_FOUR, WISH, (), (0, 2)), [])
        self.assertEqual(left_by(RING_FOUR, WISH, across, (0, 2), (0, 0), (1, 1)), ())
        self.assertEqual(left_by(RING_FOUR, WISH, across, (0, 2), (0, 0), (0, 0)), across)
        self.assertEqual(left_by(RING_FOUR, WISH, across, (0, 2), (0, 0), (1, 0)), ((0, 1, 1, 1),))
        self.assertEqual(left_by(RING_FOUR, WISH, beside, (0, 1), (0, 0), (1, 0)), ((0, 1, 1, 1),))
        self.assertEqual(left_by(RING_FOUR, WISH, beside, (0, 1), (0, 1), (1, 1)), ((0, 1, 1, 1),))
        self.assertEqual(left_by(RING_FOUR, WISH, across + (), (3,), (1,), (0,)), ((0, 0, 0, 1),))
        # 0011 with its first face 0, turned: 0011, 0110 stand there, 1 put: 1011, 1110.
        self.assertEqual(left_by(RING_FOUR, WISH, beside, (0,), (0,), (1,)), ((0, 1, 1, 1),))

    def test_nothing_is_left_where_all_is_wished(self):
        whole = tuple(slow_orbits(SWAP))
        for lot in ((), (whole[3],)):
            wish = tuple(orbit for orbit in whole if orbit not in lot)
            if lot:
                self.assertEqual(left_by(SWAP, wish, lot, (0, 1), lot[0], (0, 0)), ())
                self.assertEqual(left_by(SWAP, wish, lot, (0, 1), lot[0], lot[0]), lot)
            else:
                self.refused(BadFelt, None, left_by, SWAP, wish, lot, (0, 1), (0, 0), (0, 0))

    def test_against_the_words(self):
        for table in SMALL_TABLES[:12]:
            orbits = slow_orbits(table)
            for wish in (alike(table), noughts(table), tuple(orbits[1::2]), tuple(orbits)):
                for lot in tuples_of(slow_free(table, wish), 2) + [tuple(slow_free(table, wish))]:
                    for hands in (1, min(2, len(orbits[0]))):
                        for pattern in slow_patterns(table, hands):
                            found = felts(table, wish, lot, pattern)
                            self.assertIs(type(found), list)
                            self.assertEqual(found, slow_felts(table, lot, pattern))
                            for felt in found[:3]:
                                for setting in slow_faces(table, hands)[:5]:
                                    self.assertEqual(left_by(table, wish, lot, pattern, felt, setting),
                                                     slow_left(table, wish, lot, pattern, felt, setting))

    def test_what_one_pattern_does_another_one_of_its_shape_does(self):
        for table in (RING_FOUR, (2, mirrored(4)), (3, ring(3))):
            wish = alike(table)
            for lot in tuples_of(slow_free(table, wish), 2):
                for pattern in slow_patterns(table, 2):
                    for turning in table[1]:
                        goal = pattern_turned(turning, pattern)
                        at = [goal.index(turning[seat]) for seat in pattern]
                        for felt in felts(table, wish, lot, pattern):
                            for setting in slow_faces(table, 2)[:4]:
                                led = [tuple(faces[at.index(place)] for place in range(2)) for faces in (felt, setting)]
                                self.assertEqual(left_by(table, wish, lot, pattern, felt, setting),
                                                 left_by(table, wish, lot, goal, led[0], led[1]))


class Refusals(Case):
    def test_no_felt_and_no_setting(self):
        lot = ((0, 1, 0, 1),)

        def bad(number, felt, setting):
            self.refused(BadFelt, number, left_by, RING_FOUR, WISH, lot, (0, 2), felt, setting)

        for thing in ODD_THINGS + [(0,), (0, 0, 0), [0, 0]]:
            if not isinstance(thing, tuple) or len(thing) != 2:
                bad(None, thing, None)
                bad(None, (0, 0), thing)
        for thing, number in (((0, True), 1), ((0, 2), 1), ((-1, 0), 0), (("0", 0), 0), ((False, 0), 0), ((0, None), 1),
                              ((2, 2), 0), ((0.0, 0), 0), ((0, 10 ** 30), 1)):
            bad(number, thing, None)
            bad(number, (0, 0), thing)
        # It can't be felt: so it's refused ahead of any setting.
        bad(None, (0, 1), None)
        bad(None, (1, 0), (0, 2))
        bad(None, (0, 1), (0, 0))

    def test_order(self):
        good = (RING_FOUR, WISH, ((0, 1, 0, 1),), (0, 2), (0, 0), (1, 1))
        bad = ((BAD_TABLE, BadTable, "closed"), (((0, 0, 0, 1), (0, 0, 1, 0)), BadWish, 1),
               (((0, 1, 0, 1), (0, 0, 0, 1)), BadLot, 1), ((0, 0), BadPattern, 1), ((0, 2), BadFelt, 1),
               ((2, 0), BadFelt, 0))
        for choice in itertools.product((0, 1), repeat=6):
            args = [wrong[0] if chosen else right for chosen, right, wrong in zip(choice, good, bad)]
            due = next((wrong[1:] for chosen, wrong in zip(choice, bad) if chosen), None)
            if due:
                self.refused(due[0], due[1], left_by, *args)
            due = next((wrong[1:] for chosen, wrong in zip(choice[:4], bad) if chosen), None)
            if due:
                self.refused(due[0], due[1], felts, *args[:4])
        self.assertEqual(left_by(*good), ())

    def test_tables_come_ahead(self):
        for call, args in ((need_pattern, (None,)), (need_hands, (None,)), (shape_of, (None,)), (shapes, (None,)),
                           (felts, (None,) * 3), (left_by, (None,) * 5)):
            self.refused(BadTable, "closed", call, BAD_TABLE, *args)
            self.refused(BadTable, None, call, None, *args)

    def test_patterns_hands_wishes_lots(self):
        for thing, number in NO_PATTERNS:
            self.refused(BadPattern, number, shape_of, RING_FOUR, thing)
            self.refused(BadPattern, number, felts, RING_FOUR, WISH, (), thing)
            self.refused(BadPattern, number, left_by, RING_FOUR, WISH, (), thing, None, None)
        for thing in (0, 5, None, True, "1", (1,), 1.0):
            self.refused(BadPattern, None, shapes, RING_FOUR, thing)
        for thing in ODD_THINGS + [()]:
            number = 0 if isinstance(thing, tuple) and thing else None
            self.refused(BadWish, number, felts, RING_FOUR, thing, (), (0,))
            if thing != ():
                self.refused(BadLot, number, felts, RING_FOUR, WISH, thing, (0,))
        self.refused(BadLot, 0, felts, RING_FOUR, WISH, ((0, 0, 0, 0),), (0,))
        self.refused(BadLot, 1, felts, RING_FOUR, WISH, ((0, 0, 0, 1), (0, 0, 0, 1)), (0,))


if __name__ == "__main__":
    unittest.main()
