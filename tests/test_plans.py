"""Points 52, 54, 55 and 56: plans of feeling hands, depths, hands needed."""

import itertools
import random
import unittest

from tests.helpers import (
    CALM_ONE, ODD_THINGS, SWAP, TURN_THREE, Case, all_orders, closure, slow_depths, slow_faces, slow_felts, slow_free,
    slow_left, slow_orbits, slow_patterns, tuples_of)
from unseenturn.errors import BadLot, BadPaper, BadPattern, BadTable, BadWish, Never, NotSure, TooGreat
from unseenturn.feeling import shapes
from unseenturn.lots import Board, whole_lot
from unseenturn.making import made, mirrored, nested, ring, side_by_side
from unseenturn.plans import Choosings, check_plan, depth, depth_by, depths, hands_needed, plan_by, plan_of
from unseenturn.wishes import alike, noughts, wish_by

BAD_TABLE = (2, ((1, 0),))
RING_FOUR = (2, ring(4))
RING_SIX = (2, ring(6))
ALIKE = ((0, 0, 0, 0), (1, 1, 1, 1))
ONE, PAIR, ACROSS, THREE = (0, 0, 0, 1), (0, 0, 1, 1), (0, 1, 0, 1), (0, 1, 1, 1)
CALM_FOUR = (2, ((0, 1, 2, 3),))
# Of seven and of eight seats, any two of which can be brought to any two.
LINE_SEVEN = (2, made(7, [(1, 2, 3, 4, 5, 6, 0), (0, 3, 6, 2, 5, 1, 4)]))
LINE_EIGHT = (2, made(8, [(1, 0, 3, 2, 5, 4, 7, 6), (0, 2, 4, 6, 3, 1, 7, 5)]))
LINE_SIX = (2, made(6, [(1, 2, 3, 4, 0, 5), (0, 2, 4, 1, 3, 5), (5, 4, 2, 3, 1, 0)]))

# Two hands on a ring of four: each row by hand.
ROW_ACROSS = ((ACROSS,), 1, (0, 2), (((0, 0), (1, 1)), ((1, 1), (0, 0))))
ROW_PAIR = ((PAIR,), 2, (0, 1), (((0, 0), (1, 1)), ((0, 1), (1, 0)), ((1, 0), (0, 1)), ((1, 1), (0, 0))))
PLAN = (ROW_PAIR, ROW_ACROSS)

# A LOT of two orbits has no plan for one hand, but each of them by itself has one.
PAIRS = (3, mirrored(3))
PAIRS_WISH = ((0, 0, 0), (0, 1, 1), (1, 1, 1), (1, 1, 2), (2, 2, 2))

SMALL = [(PAIRS, PAIRS_WISH), (SWAP, noughts(SWAP)), (SWAP, alike(SWAP)), (SWAP, ((0, 1), (2, 2))), (TURN_THREE, noughts(TURN_THREE)),
         (TURN_THREE, alike(TURN_THREE)), (CALM_ONE, ((1,),)), (RING_FOUR, ALIKE), (RING_FOUR, noughts(RING_FOUR)),
         (RING_FOUR, (ACROSS,)), ((2, mirrored(4)), ALIKE), ((3, ring(3)), tuple(slow_orbits((3, ring(3)))[::2])),
         ((2, ((0, 1, 2), (1, 0, 2))), ((0, 0, 0), (0, 1, 1))), (CALM_FOUR, tuple(slow_orbits(CALM_FOUR)[::2] + [(1,) * 4])),
         ((2, all_orders(4)), noughts(RING_FOUR)), ((4, ring(2)), ((0, 0), (0, 1), (1, 2), (2, 3), (3, 3))),
         ((2, closure([(1, 0, 3, 2)], 4)), tuple(slow_orbits((2, closure([(1, 0, 3, 2)], 4)))[4:]))]


def hands_of(table):
    return range(1, len(table[1][0]) + 1)


def within(lot, other):
    return set(lot) <= set(other)


def is_row(table, wish, hands, row, ahead):
    """Whether a thing is a row of a plan by its form, by the words of the document."""
    if type(row) is not tuple or len(row) != 4:
        return False
    lot, rank, pattern, puts = row
    if lot not in tuples_of(slow_free(table, wish), 99) or repr(lot).find("e") >= 0 or lot <= ahead:
        return False
    if type(rank) is not int or rank < 1 or pattern not in slow_patterns(table, hands) or repr(pattern).find("e") >= 0:
        return False
    if type(puts) is not tuple or any(type(pair) is not tuple or len(pair) != 2 for pair in puts):
        return False
    return [felt for felt, _ in puts] == slow_felts(table, lot, pattern) and repr(puts).find("e") < 0 and all(
        setting in slow_faces(table, hands) for _, setting in puts)


def slow_place(table, wish, hands, plan):
    """The place that is due of what is no plan; "good" of one."""
    ahead = ()
    for number, row in enumerate(plan):
        if not is_row(table, wish, hands, row, ahead):
            return number
        ahead = row[0]
    for number, (lot, rank, pattern, puts) in enumerate(plan):
        lower = [other for other, less, _, _ in plan if less < rank]
        for felt, setting in puts:
            left = slow_left(table, wish, lot, pattern, felt, setting)
            if left and not any(within(left, other) for other in lower):
                return number
    return "good"


class PlanCase(Case):
    def agrees(self, table, wish, hands, plan):
        place = slow_place(table, wish, hands, plan)
        if place == "good":
            self.assertIsNone(check_plan(table, wish, hands, plan))
        else:
            self.refused(BadPaper, place, check_plan, table, wish, hands, plan)
        return place

    def bad(self, place, plan, hands=2):
        self.refused(BadPaper, place, check_plan, RING_FOUR, ALIKE, hands, plan)


class Plans(PlanCase):
    def test_by_hand(self):
        self.assertIsNone(check_plan(RING_FOUR, ALIKE, 2, PLAN))
        self.assertIsNone(check_plan(RING_FOUR, ALIKE, 2, ()))
        self.assertIsNone(check_plan(RING_FOUR, ALIKE, 2, (ROW_ACROSS,)))
        self.assertIsNone(check_plan(RING_FOUR, ALIKE, 2, ((ROW_PAIR[0], 10 ** 40) + ROW_PAIR[2:], ROW_ACROSS)))
        self.assertEqual([depth_by(RING_FOUR, ALIKE, 2, PLAN, lot) for lot in ((), (ACROSS,), (PAIR,))], [0, 1, 2])
        self.assertEqual(depth(RING_FOUR, ALIKE, 2, whole_lot(RING_FOUR, ALIKE)), 5)
        self.assertEqual([depth(RING_FOUR, ALIKE, 2, (orbit,)) for orbit in (ONE, PAIR, ACROSS, THREE)], [3, 2, 1, 3])
        self.assertEqual(depths(TURN_THREE, alike(TURN_THREE), 1),
                         [((), 0), (((0, 0, 1),), None), (((0, 0, 1), (0, 1, 1)), None), (((0, 1, 1),), None)])
        self.assertEqual(depths(CALM_ONE, ((0,),), 1), [((), 0), (((1,),), 1)])
        self.assertEqual(plan_of(CALM_ONE, ((0,),), 1, ((1,),)), ((((1,),), 1, (0,), (((1,), (0,)),)),))
        self.assertEqual(plan_of(RING_FOUR, ALIKE, 1, ()), ())

    def test_depth_by_is_the_least_rank_that_serves(self):
        both = ((ACROSS, THREE), 4, (0, 1, 2, 3), tuple((felt, (0,) * 4) for felt in slow_felts(
            RING_FOUR, (ACROSS, THREE), (0, 1, 2, 3))))
        alone = ((THREE,), 7, (0, 1, 2, 3), tuple((felt, (0,) * 4) for felt in slow_felts(
            RING_FOUR, (THREE,), (0, 1, 2, 3))))
        plan = (both, alone)
        self.assertEqual([depth_by(RING_FOUR, ALIKE, 4, plan, lot) for lot in ((), (ACROSS,), (ACROSS, THREE), (THREE,))],
                         [0, 4, 4, 4])
        for lot in ((ONE,), (ONE, THREE), (PAIR, ACROSS)):
            self.barred(NotSure, depth_by, RING_FOUR, ALIKE, 4, plan, lot)
        self.barred(NotSure, depth_by, RING_FOUR, ALIKE, 4, (), (ONE,))
        self.assertEqual(depth_by(RING_FOUR, ALIKE, 4, (), ()), 0)

    def test_depths_against_all_that_hands_can_do(self):
        for table, wish in SMALL:
            for hands in list(hands_of(table))[:3]:
                due = slow_depths(table, wish, hands)
                found = depths(table, wish, hands)
                self.assertIs(type(found), list)
                self.assertEqual(found, sorted(due.items()))
                for lot in list(due)[:20]:
                    self.assertEqual(depth(table, wish, hands, lot), due[lot])

    def test_plans_of_all_lots_are_let_by(self):
        for table, wish in SMALL:
            for hands in hands_of(table):
                found = dict(depths(table, wish, hands))
                for lot in list(found)[-24:] + list(found)[:8]:
                    if found[lot] is None:
                        self.barred(Never, plan_of, table, wish, hands, lot)
                        continue
                    plan = plan_of(table, wish, hands, lot)
                    self.assertIsNone(check_plan(table, wish, hands, plan))
                    self.assertEqual(depth_by(table, wish, hands, plan, lot), found[lot])
                    self.assertTrue(all(row[1] <= found[lot] for row in plan))
                    self.assertEqual(plan == (), lot == ())
                    self.assertEqual(plan_of(table, wish, hands, lot), plan)

    def test_depth_by_for_all_lots(self):
        for table, wish in SMALL[:10]:
            for hands in hands_of(table):
                found = dict(depths(table, wish, hands))
                lot = max((lot for lot in found if found[lot] is not None), key=len)
                plan = plan_of(table, wish, hands, lot)
                for other in found:
                    ranks = [row[1] for row in plan if within(other, row[0])] if other else [0]
                    if ranks:
                        self.assertEqual(depth_by(table, wish, hands, plan, other), min(ranks))
                    else:
                        self.barred(NotSure, depth_by, table, wish, hands, plan, other)

    def test_within_and_more_hands(self):
        for table, wish in SMALL:
            ahead = None
            for hands in hands_of(table):
                found = {lot: 99 if due is None else due for lot, due in depths(table, wish, hands)}
                for lot in found:
                    for at in range(len(lot)):
                        self.assertLessEqual(found[lot[:at] + lot[at + 1:]], found[lot])
                    if ahead:
                        self.assertLessEqual(found[lot], ahead[lot])
                ahead = found
            self.assertEqual({due for lot, due in ahead.items() if lot}, {1})

    def test_what_is_told_is_the_asker_s_own(self):
        depths(RING_FOUR, ALIKE, 2).clear()
        self.assertEqual(len(depths(RING_FOUR, ALIKE, 2)), 16)

    def test_by_names(self):
        lot = (PAIR,)
        self.assertIsNone(check_plan(plan=PLAN, hands=2, wish=ALIKE, table=RING_FOUR))
        self.assertEqual(depth_by(lot=lot, plan=PLAN, hands=2, wish=ALIKE, table=RING_FOUR), 2)
        self.assertEqual(depth(lot=lot, hands=2, wish=ALIKE, table=RING_FOUR), 2)
        self.assertEqual(depth_by(RING_FOUR, ALIKE, 2, plan_of(lot=lot, hands=2, wish=ALIKE, table=RING_FOUR), lot), 2)
        self.assertEqual(len(depths(hands=2, wish=ALIKE, table=RING_FOUR)), 16)
        self.assertEqual(hands_needed(lot=lot, wish=ALIKE, table=RING_FOUR), 2)


class Places(PlanCase):
    def test_no_plans(self):
        for thing in ODD_THINGS + [list(PLAN), {ROW_PAIR: 1}]:
            self.bad(0 if isinstance(thing, tuple) else None, thing)
        for thing in ODD_THINGS + [list(ROW_PAIR), ROW_PAIR[:3], ROW_PAIR + (1,), ()]:
            self.bad(0, (thing,) + PLAN)
            self.bad(1, (ROW_PAIR, thing))
            self.bad(2, PLAN + (thing,))

    def test_lots(self):
        for lot in ODD_THINGS + [(), [PAIR], ((0, 0, 0, 0),), ((1, 1, 0, 0),), (PAIR, PAIR), (ACROSS, PAIR), PAIR,
                                 ((False, False, True, True),), (PAIR, None), ((0, 0, 1, 2),)]:
            self.bad(0, ((lot,) + ROW_PAIR[1:], ROW_ACROSS))
            self.bad(1, (ROW_PAIR, (lot,) + ROW_ACROSS[1:]))
        self.bad(1, (ROW_ACROSS, ROW_PAIR))
        self.bad(1, (ROW_PAIR, ROW_PAIR, ROW_ACROSS))
        self.bad(2, PLAN + (ROW_ACROSS,))

    def test_ranks(self):
        for rank in [0, -1, True, False, None, "1", 1.0, 2.0, (1,), [1], {}]:
            self.bad(1, (ROW_PAIR, ((ACROSS,), rank) + ROW_ACROSS[2:]))
            self.bad(0, (((PAIR,), rank) + ROW_PAIR[2:], ROW_ACROSS))
        # By their form both are rows; but what is LEFT has to have a lesser RANK.
        self.bad(0, (((PAIR,), 1) + ROW_PAIR[2:], ROW_ACROSS))
        self.bad(0, (ROW_PAIR, ((ACROSS,), 2) + ROW_ACROSS[2:]))
        self.bad(0, (ROW_PAIR, ((ACROSS,), 3) + ROW_ACROSS[2:]))
        self.assertIsNone(check_plan(RING_FOUR, ALIKE, 2, (ROW_PAIR[:1] + (9,) + ROW_PAIR[2:], ROW_ACROSS)))

    def test_patterns(self):
        puts = ROW_ACROSS[3]
        for pattern in ODD_THINGS + [(), (0,), (0, 1, 2), (2, 0), (0, 0), [0, 2], (0, 4), (False, 2), (-1, 1), (0, 1)]:
            self.bad(1, (ROW_PAIR, ((ACROSS,), 1, pattern, puts)))
        self.assertIsNone(check_plan(RING_FOUR, ALIKE, 2, (ROW_PAIR, ((ACROSS,), 1, (1, 3), puts))))
        # Two seats are felt: for one hand, or three, it's no row.
        for hands in (1, 3, 4):
            self.bad(0, PLAN, hands)

    def test_puts(self):
        first, second = ROW_ACROSS[3]
        wrong = [(first,), (second,), (second, first), (first, first, second), (first, second, second), [first, second], (),
                 None, (first, second, ((0, 1), (0, 0))), (((0, 0), (1, 1), (1, 1)), second), (list(first), second),
                 (first, None), (((0, 0),), second), (((0, 0), (1,)), second), (((0, 0), (1, 2)), second),
                 (((0, 0), (1, True)), second), (((0, False), (1, 1)), second), (((0, 0), [1, 1]), second),
                 (([0, 0], (1, 1)), second), (((0, 0, 0), (1, 1)), second), (((0,), (1, 1)), second),
                 (((0, 0), (1, 1, 1)), second), (((0, 0), (-1, 1)), second), (first, ((1, 1), None)),
                 (first, (None, (0, 0))), (first, ((1, 1), (0, "0"))), (first, ((0, 1), (0, 0))), (first, 7)]
        for puts in wrong:
            self.bad(1, (ROW_PAIR, ROW_ACROSS[:3] + (puts,)))
        # A form that's wrong is due ahead of too much that is LEFT.
        worse = ((PAIR,), 1) + ROW_PAIR[2:]
        self.bad(0, (worse, ROW_ACROSS))
        self.bad(1, (worse, ROW_ACROSS[:3] + (wrong[0],)))
        self.bad(1, (worse, ((ACROSS,), 0) + ROW_ACROSS[2:]))
        self.bad(1, (worse, ((ACROSS,), -3) + ROW_ACROSS[2:]))

    def test_too_much_left(self):
        self.bad(0, (ROW_PAIR,))
        self.bad(1, (ROW_PAIR, ROW_ACROSS[:3] + ((((0, 0), (0, 0)), ((1, 1), (0, 0))),)))
        self.bad(1, (ROW_PAIR, ROW_ACROSS[:3] + ((((0, 0), (1, 1)), ((1, 1), (1, 0))),)))
        last = ROW_PAIR[3][:3] + (((1, 1), (0, 1)),)
        self.bad(0, (ROW_PAIR[:3] + (last,), ROW_ACROSS))
        # What is LEFT is WITHIN a LOT with more in it, too.
        wide = ((ACROSS, THREE), 1, (0, 1, 2, 3), tuple((felt, (1,) * 4) for felt in slow_felts(
            RING_FOUR, (ACROSS, THREE), (0, 1, 2, 3))))
        narrow = ((PAIR,), 2, (0, 1, 2, 3), tuple((felt, ACROSS) for felt in slow_felts(
            RING_FOUR, (PAIR,), (0, 1, 2, 3))))
        self.assertIsNone(check_plan(RING_FOUR, ALIKE, 4, (narrow, wide)))

    def test_altered_against_the_words(self):
        chance = random.Random(3)
        good = 0
        for table, wish in SMALL[:12]:
            for hands in list(hands_of(table))[:2]:
                found = dict(depths(table, wish, hands))
                plan = plan_of(table, wish, hands, max((lot for lot in found if found[lot] is not None), key=len))
                for _ in range(25):
                    good += self.agrees(table, wish, hands, self.altered(chance, table, wish, hands, plan)) == "good"
        self.assertGreater(good, 20)

    def altered(self, chance, table, wish, hands, plan):
        """A plan in which something is left out, put in twice, turned about or another one."""
        rows = [list(row) for row in plan]
        if not rows:
            return ((chance.choice(slow_free(table, wish)),), 1, tuple(range(hands)), ())
        at = chance.randrange(len(rows))
        kind = chance.randrange(8)
        if kind == 0:
            del rows[at]
        elif kind == 1:
            rows.insert(at, rows[at])
        elif kind == 2:
            rows[at][1] = chance.choice([0, 1, 2, 3, 4, True, rows[at][1] + 1])
        elif kind == 3:
            rows[at][2] = chance.choice(slow_patterns(table, hands))
        elif kind == 4 and len(rows) > 1:
            rows[at], rows[at - 1] = rows[at - 1], rows[at]
        elif kind == 5:
            puts = list(rows[at][3])
            number = chance.randrange(len(puts))
            puts[number] = (puts[number][0], chance.choice(slow_faces(table, hands)))
            rows[at][3] = tuple(puts)
        elif kind == 6:
            rows[at][0] = chance.choice(tuples_of(slow_free(table, wish), 3))
        else:
            rows[at][3] = chance.choice([rows[at][3][1:], rows[at][3][::-1], list(rows[at][3]), rows[at][3] * 2])
        return tuple(tuple(row) for row in rows)


class Needed(Case):
    def test_rings_of_two_faces(self):
        for many, due in ((2, 1), (3, 2), (4, 2), (5, 4)):
            table = (2, ring(many))
            whole = whole_lot(table, alike(table))
            self.assertEqual(hands_needed(table, alike(table), whole), due)
            self.assertIsNone(depth(table, alike(table), due - 1, whole) if due > 1 else None)
            self.assertIsNotNone(depth(table, alike(table), due, whole))

    def test_four_of_six(self):
        # A search is refused there; what looks at a told PLAN has no such bound.
        wish = alike(RING_SIX)
        board = Board(RING_SIX, wish)
        plan = plan_by(Choosings(board, 4), board.mask(board.whole))
        self.assertIsNone(check_plan(RING_SIX, wish, 4, plan))
        self.assertLessEqual(depth_by(RING_SIX, wish, 4, plan, board.whole), 6)
        self.barred(TooGreat, depth, RING_SIX, wish, 4, board.whole)

    def test_where_all_pairs_have_one_shape(self):
        for table in ((2, all_orders(3)), TURN_THREE, (2, all_orders(4)), (2, closure([(1, 2, 0, 3), (1, 0, 3, 2)], 4)),
                      (2, all_orders(5)), (2, closure([(1, 2, 3, 4, 0), (0, 2, 4, 1, 3)], 5)), LINE_SIX, LINE_SEVEN):
            many = len(table[1][0])
            self.assertEqual(shapes(table, 2), [(0, 1)])
            self.assertEqual(hands_needed(table, alike(table), whole_lot(table, alike(table))), many - 1)

    def test_by_hand(self):
        for lot, due in (((), 0), ((ACROSS,), 2), ((PAIR,), 2), ((ONE,), 2), ((ONE, THREE), 2)):
            self.assertEqual(hands_needed(RING_FOUR, ALIKE, lot), due)
        self.assertEqual(hands_needed(RING_FOUR, (ACROSS,), (PAIR,)), 2)
        self.assertEqual(hands_needed(CALM_ONE, ((0,),), ((1,),)), 1)
        self.assertEqual(hands_needed(CALM_ONE, ((0,), (1,)), ()), 0)

    def test_against_depths(self):
        for table, wish in SMALL:
            found = [dict(depths(table, wish, hands)) for hands in hands_of(table)]
            for lot in list(found[0])[:12] + list(found[0])[-6:]:
                due = next(hands for hands, told in zip(hands_of(table), found) if told[lot] is not None) if lot else 0
                self.assertEqual(hands_needed(table, wish, lot), due)

    def test_fewer_turnings_need_no_more(self):
        for whole, part in ((mirrored(4), ring(4)), (ring(4), ((0, 1, 2, 3), (2, 3, 0, 1))), (all_orders(3), ring(3)),
                            (ring(3), ((0, 1, 2),)), (nested(ring(2), ring(2)), side_by_side(ring(2), ring(2)))):
            table, less = (2, whole), (2, part)
            wish = alike(table)
            self.assertLessEqual(hands_needed(less, wish, whole_lot(less, wish)) if len(slow_orbits(less)) <= 10 else 0,
                                 hands_needed(table, wish, whole_lot(table, wish)))


class Great(Case):
    def searches(self, table, wish, hands, lot):
        return [(depth, (table, wish, hands, lot)), (plan_of, (table, wish, hands, lot)), (depths, (table, wish, hands))]

    def test_nine_orbits(self):
        orbits = slow_orbits(CALM_FOUR)
        for free, great in ((8, False), (9, True), (15, True)):
            wish = tuple(orbits[free:])
            for lot in ((), (orbits[0],), tuple(orbits[:free])):
                for call, args in self.searches(CALM_FOUR, wish, 1, lot):
                    if great:
                        self.barred(TooGreat, call, *args)
                    else:
                        self.assertIsNotNone(call(*args))
                if lot and great:
                    self.barred(TooGreat, hands_needed, CALM_FOUR, wish, lot)
                else:
                    self.assertEqual(hands_needed(CALM_FOUR, wish, lot), min(1, len(lot)))

    def test_more_than_so_many_choices(self):
        calm = tuple(range(7))
        told = [((2, ring(7)), 6, False), ((2, ring(7)), 7, True), ((2, ring(7)), 5, False), ((2, (calm,)), 3, False),
                ((2, (calm,)), 4, True), ((2, (calm,)), 6, True), ((4, ring(3)), 3, False), ((5, ring(3)), 3, True),
                ((8, ring(2)), 2, False), ((9, ring(2)), 2, True), ((9, ring(2)), 1, False), ((3, ring(4)), 3, False),
                ((3, ring(4)), 4, True), ((2, ring(8)), 4, False), ((2, ring(8)), 5, True), ((2, (calm[:6],)), 4, False),
                ((2, (calm[:6],)), 5, True), ((4, ((0, 1, 2, 3),)), 3, True), ((4, ring(4)), 3, False)]
        for table, hands, great in told:
            orbits = slow_orbits(table)
            wish = tuple(orbits[1:])
            for lot in ((), (orbits[0],)):
                for call, args in self.searches(table, wish, hands, lot):
                    if great:
                        self.barred(TooGreat, call, *args)
                    else:
                        self.assertIsNotNone(call(*args))
                self.assertEqual(hands_needed(table, wish, lot), min(1, len(lot)))

    def test_hands_needed_asks_for_one_number_behind_the_other(self):
        # Eight ORBITS, and by six HANDS just 4096 choices; seven are needed.
        wish = alike(LINE_EIGHT)
        self.assertEqual(len(whole_lot(LINE_EIGHT, wish)), 8)
        self.assertEqual(len(LINE_EIGHT[1]), 56)
        self.assertIsNone(depth(LINE_EIGHT, wish, 6, whole_lot(LINE_EIGHT, wish)))
        self.barred(TooGreat, depth, LINE_EIGHT, wish, 7, whole_lot(LINE_EIGHT, wish))
        self.barred(TooGreat, hands_needed, LINE_EIGHT, wish, whole_lot(LINE_EIGHT, wish))
        self.assertEqual(hands_needed(LINE_EIGHT, wish, ()), 0)
        easy = wish_by(LINE_EIGHT, ((0, 0, 0, 0, 0, 0, 0, 1), (0, 0, 0, 0, 0, 0, 1, 1)))
        self.assertEqual(hands_needed(LINE_EIGHT, easy, ((0,) * 8,)), 1)

    def test_lookers_have_no_bound(self):
        calm = (2, (tuple(range(8)),))
        orbits = slow_orbits(calm)
        puts = tuple((felt, (0,) * 8) for felt in orbits[1:])
        plan = ((tuple(orbits[1:]), 1, tuple(range(8)), puts),)
        self.assertIsNone(check_plan(calm, noughts(calm), 8, plan))
        self.assertEqual(depth_by(calm, noughts(calm), 8, plan, tuple(orbits[4:9])), 1)
        worse = puts[:-1] + ((orbits[-1], (0,) * 7 + (1,)),)
        self.refused(BadPaper, 0, check_plan, calm, noughts(calm), 8, (plan[0][:3] + (worse,),))


class Refusals(Case):
    def test_order(self):
        nine = tuple(slow_orbits(CALM_FOUR)[9:])
        good = {"table": CALM_FOUR, "wish": nine, "hands": 2, "plan": (), "lot": (ONE,)}
        bad = {"table": (BAD_TABLE, BadTable, "closed"), "wish": ((PAIR, ONE), BadWish, 1), "hands": (5, BadPattern, None),
               "plan": ([], BadPaper, None), "lot": (((1, 1, 1, 1),), BadLot, 0)}
        told = [(check_plan, ["table", "wish", "hands", "plan"]), (depth_by, ["table", "wish", "hands", "plan", "lot"]),
                (depth, ["table", "wish", "hands", "lot"]), (plan_of, ["table", "wish", "hands", "lot"]),
                (depths, ["table", "wish", "hands"]), (hands_needed, ["table", "wish", "lot"])]
        for call, names in told:
            for choice in itertools.product((0, 1), repeat=len(names)):
                more = {name: bad[name][0] if chosen else good[name] for name, chosen in zip(names, choice)}
                due = next((bad[name][1:] for name, chosen in zip(names, choice) if chosen), None)
                if due:
                    self.refused(due[0], due[1], call, **more)
                elif call == depth_by:
                    self.barred(NotSure, call, **more)
                elif call == check_plan:
                    self.assertIsNone(call(**more))
                else:
                    self.barred(TooGreat, call, **more)

    def test_anything(self):
        for thing in ODD_THINGS:
            number = 0 if isinstance(thing, tuple) else None
            for call, args in ((check_plan, (2, None)), (depth_by, (2, None, None)), (depth, (2, None)),
                               (plan_of, (2, None)), (depths, (2,)), (hands_needed, (None,))):
                self.refused(BadTable, None, call, thing if thing != () else None, None, *args)
                self.refused(BadWish, number, call, RING_FOUR, thing, *args)
            if type(thing) is not int or not 1 <= thing <= 4:
                for call, args in ((check_plan, (None,)), (depth_by, (None, None)), (depth, (None,)), (plan_of, (None,)),
                                   (depths, ())):
                    self.refused(BadPattern, None, call, RING_FOUR, ALIKE, thing, *args)
            self.refused(BadLot, number, depth_by, RING_FOUR, ALIKE, 2, PLAN, thing)
            self.refused(BadLot, number, depth, RING_FOUR, ALIKE, 2, thing)
            self.refused(BadLot, number, plan_of, RING_FOUR, ALIKE, 2, thing)
            self.refused(BadLot, number, hands_needed, RING_FOUR, ALIKE, thing)

    def test_never_is_behind_all_refusals(self):
        self.barred(Never, plan_of, RING_FOUR, ALIKE, 1, (ONE,))
        self.refused(BadLot, 0, plan_of, RING_FOUR, ALIKE, 1, ((0, 0, 0, 0),))
        self.barred(TooGreat, plan_of, RING_SIX, alike(RING_SIX), 1, whole_lot(RING_SIX, alike(RING_SIX)))


if __name__ == "__main__":
    unittest.main()
