"""Points 80 to 83 and 47: what goes over from table to table."""

import itertools
import random
import unittest

from tests.helpers import (
    CALM_ONE, ODD_THINGS, SMALL_TABLES, SWAP, TURN_THREE, Case, all_orders, closure, slow_free, slow_least, slow_orbits,
    slow_plus, slow_stands, slow_turned, slow_wished)
from unseenturn.blocks import all_kept, among
from unseenturn.built import built_row
from unseenturn.errors import BadRow, BadStand, BadTable, BadWish, OutOfPlace, TooGreat
from unseenturn.making import mirrored, nested, ring, side_by_side
from unseenturn.maps import (
    beside, beside_wish, blocked, blocked_row, blocked_stand, blocked_wish, divided, divided_row, divided_stand,
    divided_wish, divisors, is_blocks, is_part, part_wish)
from unseenturn.rows import fewest, is_sure, least_row
from unseenturn.stairs import can_be_sure, steps
from unseenturn.tables import is_table, walked
from unseenturn.wishes import alike, is_even, is_wish, noughts, wish_by

BAD_TABLE = (2, ((1, 0),))
FOUR_SWAP = (4, ((0, 1), (1, 0)))
RING_FOUR = (2, ring(4))
HALVES = ((0, 2), (1, 3))
NO_BLOCKS = [(), ((0, 2),), ((0, 2), (1, 3), ()), ((), (0, 2), (1, 3)), ((1, 3), (0, 2)), ((0, 2), (3, 1)), ((0, 1), (2, 3)),
             ((0, 2), (1, 2)), ((0, 2), (1, 3, 4)), ((0, True), (2, 3)), ((False, 2), (1, 3)), [(0, 2), (1, 3)],
             ([0, 2], (1, 3)), ((0, 2), (1,)), ((0, 2), None), None, ((0, 2), (1, 3), (1, 3)), ((0, 1, 2, 3), (0,)),
             ((0,), (1, 2, 3)), ((-1, 1), (0, 2)), ((0, 2), ("1", 3)), (0, 2)]


def chance_rows(chance, table, many):
    stands = slow_stands(table)
    return [tuple(chance.choice(stands) for _ in range(chance.randint(0, 4))) for _ in range(many)]


def image(table, stands):
    return tuple(sorted({slow_least(table, stand) for stand in stands}))


class MapCase(Case):
    def goes_over(self, table, goal, over, leads):
        """STANDS turned, added to go over to such; each TURNING by the one that is told."""
        stands = slow_stands(table)
        self.assertTrue(is_table(goal))
        self.assertEqual({over(stand) for stand in stands}, set(slow_stands(goal)))
        self.assertEqual(sorted({leads(turning) for turning in table[1]}), list(goal[1]))
        for stand in stands[::3]:
            for turning in table[1]:
                self.assertEqual(over(slow_turned(turning, stand)), slow_turned(leads(turning), over(stand)))
            for other in stands[::7]:
                self.assertEqual(over(slow_plus(table, stand, other)), slow_plus(goal, over(stand), over(other)))


class Divided(MapCase):
    TABLES = [FOUR_SWAP, (6, ((0, 1), (1, 0))), (8, ((0, 1),)), (9, ring(2)), (4, ring(3)), (6, ring(3)), (4, all_orders(3)),
              (8, ((0,),)), (4, ring(4))]

    def test_divisors(self):
        told = {2: (), 3: (), 4: (2,), 5: (), 6: (2, 3), 7: (), 8: (2, 4), 9: (3,)}
        for faces, due in told.items():
            self.assertEqual(divisors((faces, ((0, 1), (1, 0)))), due)
            self.assertEqual(divisors((faces, ((0,),))), due)

    def test_by_hand(self):
        self.assertEqual(divided(FOUR_SWAP, 2), (2, FOUR_SWAP[1]))
        self.assertEqual(divided((6, ring(3)), 3), (3, ring(3)))
        self.assertEqual(divided_stand(FOUR_SWAP, 2, (3, 2)), (1, 0))
        self.assertEqual(divided_stand((9, ((0, 1),)), 3, (8, 4)), (2, 1))
        self.assertEqual(divided_row(FOUR_SWAP, 2, ((3, 2), (0, 1), (2, 2))), ((1, 0), (0, 1), (0, 0)))
        self.assertEqual(divided_row(FOUR_SWAP, 2, ()), ())
        self.assertEqual(divided_wish(FOUR_SWAP, 2, ((0, 0), (0, 2), (1, 2), (2, 2))), ((0, 0), (0, 1)))
        self.assertEqual(divided_wish(FOUR_SWAP, 2, ((0, 3),)), ((0, 1),))
        # (1, 2) goes over to (1, 0), and of that orbit (0, 1) is the least one.
        self.assertEqual(divided_wish(FOUR_SWAP, 2, ((1, 2), (3, 3))), ((0, 1), (1, 1)))

    def test_against_the_words(self):
        chance = random.Random(1)
        for table in self.TABLES:
            for divisor in divisors(table):
                goal = divided(table, divisor)
                self.assertEqual(goal, (divisor, table[1]))

                def over(stand):
                    return divided_stand(table, divisor, stand)

                self.goes_over(table, goal, over, lambda turning: turning)
                for stand in slow_stands(table)[::5]:
                    self.assertEqual(over(stand), tuple(face % divisor for face in stand))
                for row in chance_rows(chance, table, 5):
                    self.assertEqual(divided_row(table, divisor, row), tuple(over(deed) for deed in row))
                orbits = slow_orbits(table)
                for wish in (noughts(table), alike(table), tuple(orbits), tuple(sorted(chance.sample(orbits, 2)))):
                    found = divided_wish(table, divisor, wish)
                    self.assertIs(is_wish(goal, found), True)
                    self.assertEqual(found, image(goal, [over(stand) for stand in slow_wished(table, wish)]))

    def test_what_is_sure_stays_so(self):
        some = 0
        for table, wish in ((FOUR_SWAP, noughts(FOUR_SWAP)), (FOUR_SWAP, alike(FOUR_SWAP)), ((4, ((0,),)), ((0,),)),
                            ((8, ((0,),)), ((0,), (4,))), ((6, ((0,),)), ((1,),)), ((9, ((0,),)), ((0,), (1,), (2,), (5,)))):
            for divisor in divisors(table):
                row = built_row(table, wish) if is_even(table, wish) else least_row(table, wish)
                for told in (row, row + row[:1], row[:-1], row[1:]):
                    if is_sure(table, wish, told):
                        some += 1
                        self.assertIs(is_sure(divided(table, divisor), divided_wish(table, divisor, wish),
                                              divided_row(table, divisor, told)), True)
        self.assertGreater(some, 10)
        # Never the other way by itself.
        table, row = (4, ((0,),)), ((1,),)
        self.assertIs(is_sure((2, ((0,),)), ((0,),), row), True)
        self.assertIs(is_sure(table, ((0,),), row), False)

    def test_no_divisor(self):
        for table in (FOUR_SWAP, (6, ((0, 1),)), (5, ((0,),)), SWAP, (9, ((0,),))):
            for thing in ODD_THINGS + list(range(-3, 12)) + [10 ** 30, (2,), "2", 2.0]:
                if type(thing) is int and thing in divisors(table):
                    self.assertEqual(divided(table, thing)[0], thing)
                else:
                    self.barred(OutOfPlace, divided, table, thing)
                    for call in (divided_stand, divided_row, divided_wish):
                        self.barred(OutOfPlace, call, table, thing, None)


class Blocked(MapCase):
    TABLES = [RING_FOUR, (2, mirrored(6)), (3, ring(4)), (2, nested(ring(2), ring(2))), SWAP, (2, ((0, 1, 2), (1, 0, 2))),
              (3, TURN_THREE[1]), (2, side_by_side(ring(2), ring(3))), (2, ((0, 1, 2, 3),)), (9, ring(2))]

    def test_by_hand(self):
        self.assertEqual(blocked(RING_FOUR, HALVES), (2, ((0, 1), (1, 0))))
        self.assertEqual(blocked(RING_FOUR, ((0, 1, 2, 3),)), (2, ((0,),)))
        self.assertEqual(blocked(RING_FOUR, ((0,), (1,), (2,), (3,))), RING_FOUR)
        self.assertEqual(blocked_stand(RING_FOUR, HALVES, (1, 0, 1, 1)), (0, 1))
        self.assertEqual(blocked_stand((3, ring(4)), HALVES, (2, 0, 2, 1)), (1, 1))
        self.assertEqual(blocked_row(RING_FOUR, HALVES, ((1, 0, 0, 1), (0, 0, 0, 0))), ((1, 1), (0, 0)))
        self.assertEqual(blocked_row(RING_FOUR, HALVES, ()), ())
        self.assertEqual(blocked_wish(RING_FOUR, HALVES, ((0, 0, 0, 0), (0, 1, 0, 1))), ((0, 0),))
        self.assertEqual(blocked_wish(RING_FOUR, HALVES, ((0, 0, 0, 1), (0, 1, 1, 1))), ((0, 1),))
        # Seat 0 is a block by itself, and stays one: so (0, 1), (1, 0) are orbits of their own.
        table = (2, ((0, 1, 2), (0, 2, 1)))
        self.assertEqual(blocked(table, ((0, 1, 2),)), (2, ((0,),)))
        self.assertEqual(blocked_wish(table, ((0,), (1, 2)), ((0, 0, 1), (1, 1, 1))), ((0, 1), (1, 0)))
        self.assertIs(is_blocks(RING_FOUR, HALVES), True)
        self.assertIs(is_blocks(RING_FOUR, ((0, 1), (2, 3))), False)
        self.assertIs(is_blocks((2, ((0, 1, 2, 3),)), ((0, 1), (2, 3))), True)

    def test_is_blocks_of_anything(self):
        for thing in ODD_THINGS + NO_BLOCKS:
            self.assertIs(is_blocks(RING_FOUR, thing), False)
        for table in self.TABLES:
            kept = all_kept(table[1])
            for parting in all_kept((tuple(range(len(table[1][0]))),)):
                self.assertIs(is_blocks(table, parting), parting in kept)

    def test_against_the_words(self):
        chance = random.Random(2)
        for table in self.TABLES:
            for blocks in all_kept(table[1]):
                goal = blocked(table, blocks)
                self.assertEqual(goal, (table[0], among(table[1], blocks)))
                home = {seat: number for number, block in enumerate(blocks) for seat in block}

                def over(stand):
                    return blocked_stand(table, blocks, stand)

                self.goes_over(table, goal, over, lambda turning: tuple(home[turning[block[0]]] for block in blocks))
                for stand in slow_stands(table)[::5]:
                    due = tuple(sum(stand[seat] for seat in block) % table[0] for block in blocks)
                    self.assertEqual(over(stand), due)
                for row in chance_rows(chance, table, 3):
                    self.assertEqual(blocked_row(table, blocks, row), tuple(over(deed) for deed in row))
                orbits = slow_orbits(table)
                for wish in (noughts(table), alike(table), tuple(sorted(chance.sample(orbits, 2)))):
                    found = blocked_wish(table, blocks, wish)
                    self.assertIs(is_wish(goal, found), True)
                    self.assertEqual(found, image(goal, [over(stand) for stand in slow_wished(table, wish)]))

    def test_a_run_goes_over(self):
        chance = random.Random(3)
        table, home = (3, ring(4)), (0, 1, 0, 1)
        for row in chance_rows(chance, table, 20):
            turns = tuple(chance.choice(table[1]) for _ in row)
            stand = chance.choice(slow_stands(table))
            led = tuple((home[turning[0]], home[turning[1]]) for turning in turns)
            self.assertEqual(
                [blocked_stand(table, HALVES, behind) for behind in walked(table, (stand, turns), row)],
                walked(blocked(table, HALVES), (blocked_stand(table, HALVES, stand), led), blocked_row(table, HALVES, row)))

    def test_what_is_sure_stays_so(self):
        some = 0
        for table, wish in ((RING_FOUR, alike(RING_FOUR)), (RING_FOUR, noughts(RING_FOUR)), (SWAP, ((0, 1), (2, 2))),
                            ((2, mirrored(4)), alike(RING_FOUR)), ((2, nested(ring(2), ring(2))), alike(RING_FOUR))):
            row = built_row(table, wish) if is_even(table, wish) else least_row(table, wish)
            self.assertIs(is_sure(table, wish, row), True)
            for blocks in all_kept(table[1]):
                some += 1
                self.assertIs(is_sure(blocked(table, blocks), blocked_wish(table, blocks, wish),
                                      blocked_row(table, blocks, row)), True)
        self.assertGreater(some, 10)

    def test_no_blocks(self):
        for thing in ODD_THINGS + NO_BLOCKS:
            self.barred(OutOfPlace, blocked, RING_FOUR, thing)
            for call in (blocked_stand, blocked_row, blocked_wish):
                self.barred(OutOfPlace, call, RING_FOUR, thing, None)


class Parts(Case):
    def test_by_hand(self):
        calm, across = (2, ((0, 1, 2, 3),)), (2, ((0, 1, 2, 3), (2, 3, 0, 1)))
        for part in (calm, across, RING_FOUR):
            self.assertIs(is_part(RING_FOUR, part), True)
        self.assertIs(is_part(across, RING_FOUR), False)
        self.assertIs(is_part((2, mirrored(4)), RING_FOUR), True)
        self.assertEqual(part_wish(RING_FOUR, across, ((0, 0, 0, 1),)), ((0, 0, 0, 1), (0, 0, 1, 0)))
        self.assertEqual(part_wish(RING_FOUR, calm, ((0, 1, 0, 1),)), ((0, 1, 0, 1), (1, 0, 1, 0)))
        self.assertEqual(part_wish(RING_FOUR, RING_FOUR, alike(RING_FOUR)), alike(RING_FOUR))

    def test_is_part_of_anything(self):
        wrong = [(3, ring(4)), (2, ()), (2, ((2, 3, 0, 1),)), (2, [(0, 1, 2, 3)]), [2, ((0, 1, 2, 3),)], (2, ((0, 1, 2),)),
                 (2, ((0, 1, 2, 3), (1, 2, 3, 0))), (2, ((0, 1, 2, 3), (3, 2, 1, 0))), (True, ((0, 1, 2, 3),)), ((0, 1, 2, 3),),
                 (2, ((False, 1, 2, 3),)), (2, ((2, 3, 0, 1), (0, 1, 2, 3))), ring(4), (2.0, ((0, 1, 2, 3),)), (2,),
                 (2, ((0, 1, 2, 3),), 0), (2, mirrored(4))]
        for thing in ODD_THINGS + wrong:
            self.assertIs(is_part(RING_FOUR, thing), False)
            self.barred(OutOfPlace, part_wish, RING_FOUR, thing, None)

    def test_against_the_words(self):
        for whole, part in ((mirrored(4), ring(4)), (mirrored(6), ring(6)), (all_orders(4), mirrored(4)),
                            (ring(6), closure([(2, 3, 4, 5, 0, 1)], 6)), (all_orders(3), ((0, 1, 2), (1, 0, 2)))):
            table, less = (2, whole), (2, part)
            self.assertIs(is_part(table, less), True)
            for wish in (noughts(table), alike(table), tuple(slow_orbits(table)[1::2]), tuple(slow_orbits(table))):
                found = part_wish(table, less, wish)
                self.assertIs(is_wish(less, found), True)
                self.assertEqual(slow_wished(less, found), slow_wished(table, wish))

    def test_a_row_that_is_sure_is_so_for_a_part(self):
        for table in (RING_FOUR, (2, mirrored(4)), (2, nested(ring(2), ring(2)))):
            row = built_row(table, alike(table))
            for part in ((2, ((0, 1, 2, 3),)), (2, ((0, 1, 2, 3), (2, 3, 0, 1)))):
                if is_part(table, part):
                    self.assertIs(is_sure(part, part_wish(table, part, alike(table)), row), True)
        # A part needs no more DEEDS, and may need fewer.
        part = (2, ((0, 1, 2, 3),))
        self.assertEqual(fewest(part, part_wish(RING_FOUR, part, ((0, 0, 0, 1), (0, 1, 1, 1)))), 1)


class Beside(Case):
    PAIRS = [(CALM_ONE, CALM_ONE), (SWAP, (3, ((0,),))), ((3, ((0,),)), SWAP), (TURN_THREE, (2, ring(2))),
             ((2, ring(2)), (2, ring(2))), ((2, ring(4)), CALM_ONE), ((4, ((0,),)), FOUR_SWAP), ((2, ring(4)), (2, mirrored(4)))]

    def test_by_hand(self):
        self.assertEqual(beside(CALM_ONE, (2, ((0, 1), (1, 0)))), (2, ((0, 1, 2), (0, 2, 1))))
        self.assertEqual(beside((2, ((0, 1), (1, 0))), CALM_ONE), (2, ((0, 1, 2), (1, 0, 2))))
        self.assertEqual(beside(SWAP, SWAP), (3, side_by_side(ring(2), ring(2))))
        self.assertEqual(beside_wish(SWAP, SWAP, ((0, 1), (2, 2)), ((0, 0),)), ((0, 1, 0, 0), (2, 2, 0, 0)))
        self.assertEqual(beside_wish(CALM_ONE, CALM_ONE, ((0,), (1,)), ((0,), (1,))), ((0, 0), (0, 1), (1, 0), (1, 1)))

    def test_against_the_words(self):
        for table, other in self.PAIRS:
            whole = beside(table, other)
            self.assertIs(is_table(whole), True)
            many = len(table[1][0])
            due = {one + tuple(many + seat for seat in far) for one in table[1] for far in other[1]}
            self.assertEqual(whole, (table[0], tuple(sorted(due))))
            for wish in (noughts(table), alike(table), tuple(slow_orbits(table)[-2:])):
                for far in (noughts(other), tuple(slow_orbits(other)), tuple(slow_orbits(other)[-1:])):
                    found = beside_wish(table, other, wish, far)
                    self.assertIs(is_wish(whole, found), True)
                    self.assertEqual(slow_wished(whole, found),
                                     {one + two for one in slow_wished(table, wish) for two in slow_wished(other, far)})

    def test_stairs_beside_one_another(self):
        for table, other in self.PAIRS:
            whole = beside(table, other)
            for wish in (noughts(table), alike(table)):
                for far in (noughts(other), alike(other), tuple(slow_orbits(other))):
                    both = beside_wish(table, other, wish, far)
                    self.assertIs(is_even(whole, both), True)
                    one, two = steps(table, wish), steps(other, far)
                    longest = max(len(one), len(two))
                    one, two = (told + told[-1:] * (longest - len(told)) for told in (one, two))
                    self.assertEqual(steps(whole, both), [first * later for first, later in zip(one, two)])
                    self.assertEqual(len(built_row(whole, both)) + 1,
                                     (len(built_row(table, wish)) + 1) * (len(built_row(other, far)) + 1))
                    self.assertIs(can_be_sure(whole, both, tuple(slow_free(whole, both))),
                                  can_be_sure(table, wish, tuple(slow_free(table, wish)))
                                  and can_be_sure(other, far, tuple(slow_free(other, far))))

    def test_out_of_place_and_too_great(self):
        self.barred(OutOfPlace, beside, CALM_ONE, SWAP)
        self.barred(OutOfPlace, beside, (9, ring(2)), (8, ring(3)))
        calm = [(2, (tuple(range(many)),)) for many in range(9)]
        self.assertEqual(beside(calm[4], calm[4]), calm[8])
        self.barred(TooGreat, beside, calm[4], calm[5])
        self.barred(TooGreat, beside, calm[8], calm[1])
        self.assertEqual(beside((3, ((0, 1, 2),)), (3, ((0, 1, 2),))), (3, ((0, 1, 2, 3, 4, 5),)))
        self.barred(TooGreat, beside, (3, ((0, 1, 2),)), (3, ((0, 1, 2, 3),)))
        self.barred(TooGreat, beside, (9, ((0, 1),)), (9, ((0, 1),)))
        self.assertEqual(len(beside((9, ((0, 1),)), (9, ((0,),)))[1]), 1)
        self.assertEqual(len(beside((2, mirrored(4)), (2, mirrored(4)))[1]), 64)
        self.barred(TooGreat, beside, (2, all_orders(4)), (2, mirrored(4)))
        self.barred(TooGreat, beside, (2, all_orders(4)), (2, all_orders(3)))
        self.assertEqual(len(beside((2, all_orders(4)), (2, ring(4)))[1]), 96)
        # Unlike FACES are told first.
        self.barred(OutOfPlace, beside, (2, (tuple(range(8)),)), (3, ((0, 1, 2, 3, 4, 5),)))
        for call in (beside, lambda *told: beside_wish(*told, None, None)):
            self.barred(OutOfPlace, call, CALM_ONE, SWAP)
            self.barred(TooGreat, call, calm[8], calm[1])


class Refusals(Case):
    def test_order(self):
        blocks, bad_blocks = HALVES, ((0, 1), (2, 3))
        table = (4, ring(4))
        other = (4, ((0,),))
        nought, wish, part = (0, 0, 0, 0), noughts(table), (4, ((0, 1, 2, 3),))
        bad_wish = ((0, 0, 0, 1), (0, 0, 1, 0))
        told = [
            (divisors, [("table", table, (BAD_TABLE, BadTable, "closed"))]),
            (divided, [("table", table, (BAD_TABLE, BadTable, "closed")), ("divisor", 2, (3, OutOfPlace, None))]),
            (divided_stand, [("table", table, (BAD_TABLE, BadTable, "closed")), ("divisor", 2, (3, OutOfPlace, None)),
                             ("stand", nought, ((0, 0, 4, 0), BadStand, 2))]),
            (divided_row, [("table", table, (BAD_TABLE, BadTable, "closed")), ("divisor", 2, (3, OutOfPlace, None)),
                           ("row", (nought,), ((nought, None), BadRow, 1))]),
            (divided_wish, [("table", table, (BAD_TABLE, BadTable, "closed")), ("divisor", 2, (3, OutOfPlace, None)),
                            ("wish", wish, (bad_wish, BadWish, 1))]),
            (is_blocks, [("table", table, (BAD_TABLE, BadTable, "closed")), ("blocks", blocks, None)]),
            (blocked, [("table", table, (BAD_TABLE, BadTable, "closed")), ("blocks", blocks, (bad_blocks, OutOfPlace, None))]),
            (blocked_stand, [("table", table, (BAD_TABLE, BadTable, "closed")),
                             ("blocks", blocks, (bad_blocks, OutOfPlace, None)), ("stand", nought, ((0, 0, 4, 0), BadStand, 2))]),
            (blocked_row, [("table", table, (BAD_TABLE, BadTable, "closed")),
                           ("blocks", blocks, (bad_blocks, OutOfPlace, None)), ("row", (nought,), ((nought, None), BadRow, 1))]),
            (blocked_wish, [("table", table, (BAD_TABLE, BadTable, "closed")),
                            ("blocks", blocks, (bad_blocks, OutOfPlace, None)), ("wish", wish, (bad_wish, BadWish, 1))]),
            (is_part, [("table", table, (BAD_TABLE, BadTable, "closed")), ("part", part, None)]),
            (part_wish, [("table", table, (BAD_TABLE, BadTable, "closed")), ("part", part, (other, OutOfPlace, None)),
                         ("wish", wish, (bad_wish, BadWish, 1))]),
            (beside, [("table", CALM_ONE, (BAD_TABLE, BadTable, "closed")),
                      ("other", (2, ring(2)), ((4, ()), BadTable, "turnings"))]),
            (beside_wish, [("table", CALM_ONE, (BAD_TABLE, BadTable, "closed")),
                           ("other", (2, ring(2)), ((4, ()), BadTable, "turnings")),
                           ("wish", ((0,),), (((0,), (0,)), BadWish, 1)),
                           ("far_wish", ((0, 0), (0, 1)), (((0, 0), (1, 0)), BadWish, 1))])]
        for call, rows in told:
            for choice in itertools.product((0, 1), repeat=len(rows)):
                if any(chosen and wrong is None for chosen, (_, _, wrong) in zip(choice, rows)):
                    continue
                more = {name: wrong[0] if chosen else right for chosen, (name, right, wrong) in zip(choice, rows)}
                due = next((wrong[1:] for chosen, (_, _, wrong) in zip(choice, rows) if chosen), None)
                if due is None:
                    self.assertIsNotNone(call(**dict(reversed(list(more.items())))))
                elif due[0] == OutOfPlace:
                    self.barred(OutOfPlace, call, **more)
                else:
                    self.refused(due[0], due[1], call, **more)

    def test_tables_of_anything(self):
        calls = [(divisors, ()), (divided, (None,)), (divided_stand, (None, None)), (divided_row, (None, None)),
                 (divided_wish, (None, None)), (is_blocks, (None,)), (blocked, (None,)), (blocked_stand, (None, None)),
                 (blocked_row, (None, None)), (blocked_wish, (None, None)), (is_part, (None,)), (part_wish, (None, None)),
                 (beside, (None,)), (beside_wish, (None, None, None))]
        for thing in ODD_THINGS:
            for call, args in calls:
                self.refused(BadTable, None, call, thing, *args)
            self.refused(BadTable, None, beside, SWAP, thing)
            self.refused(BadTable, None, beside_wish, SWAP, thing, None, None)
        self.refused(BadTable, "stands", beside, CALM_ONE, (9, ring(8)))

    def test_stands_rows_wishes_of_anything(self):
        for thing in ODD_THINGS:
            number = 0 if isinstance(thing, tuple) else None
            self.refused(BadStand, None, divided_stand, FOUR_SWAP, 2, thing)
            self.refused(BadStand, None, blocked_stand, RING_FOUR, HALVES, thing)
            self.refused(BadRow, number, divided_row, FOUR_SWAP, 2, thing)
            self.refused(BadRow, number, blocked_row, RING_FOUR, HALVES, thing)
            self.refused(BadWish, number, divided_wish, FOUR_SWAP, 2, thing)
            self.refused(BadWish, number, blocked_wish, RING_FOUR, HALVES, thing)
            self.refused(BadWish, number, part_wish, RING_FOUR, RING_FOUR, thing)
            self.refused(BadWish, number, beside_wish, SWAP, SWAP, thing, None)
            self.refused(BadWish, number, beside_wish, SWAP, SWAP, noughts(SWAP), thing)
        for call, more in ((divided_wish, (FOUR_SWAP, 2)), (blocked_wish, (RING_FOUR, HALVES)),
                           (part_wish, (RING_FOUR, RING_FOUR)), (beside_wish, (SWAP, SWAP, noughts(SWAP)))):
            self.refused(BadWish, None, call, *more, ())


if __name__ == "__main__":
    unittest.main()
