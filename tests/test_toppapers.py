"""Point 45: papers of a top."""

import itertools
import unittest

from tests.helpers import (
    CALM_ONE, ODD_THINGS, SMALL_TABLES, SWAP, TURN_THREE, Case, slow_minus, slow_orbits, slow_plus, slow_stands, slow_turned,
    slow_wished)
from unseenturn.errors import BadPaper, BadTable, BadWish, NotEven
from unseenturn.making import mirrored, ring, side_by_side
from unseenturn.stairs import steps
from unseenturn.toppapers import check_top, top_paper
from unseenturn.wishes import alike, even_by, noughts

BAD_TABLE = (2, ((1, 0),))
RING_FOUR = (2, ring(4))
UNEVEN = ((0, 1),)
PAPER = (((1, 1, 1),), (((0, 0, 1), 1), ((0, 1, 0), 2), ((0, 1, 1), 1)))


def even_wishes(table):
    stands = slow_stands(table)
    told = [(one,) for one in stands[:8]] + [(one, two) for one in stands[:2] for two in stands[3:7]]
    return sorted({even_by(table, some) for some in told} | {alike(table), tuple(slow_orbits(table))})


def slow_sums(table, stands):
    found = set(stands)
    while True:
        more = found | {slow_plus(table, one, two) for one in found for two in found}
        if more == found:
            return found
        found = more


def slow_moved(table, turning, stand):
    return slow_minus(table, slow_turned(turning, stand), stand)


def slow_place(table, wish, paper):
    """How many stands M has and None, or None and the place that is due, of a pair of tuples of stands and pairs."""
    told = slow_wished(table, wish)
    group = slow_sums(table, {slow_minus(table, one, two) for one in told for two in told})
    ups, outs = paper
    for number, up in enumerate(ups):
        if up in group or not all(slow_moved(table, turning, up) in group for turning in table[1]):
            return None, number
        group = slow_sums(table, group | {up})
    leasts = sorted({min(slow_plus(table, stand, other) for other in group) for stand in slow_stands(table)})[1:]
    for number, least in enumerate(leasts):
        if number >= len(outs) or outs[number][0] != least:
            return None, len(ups) + number
        turn = outs[number][1]
        if not 0 <= turn < len(table[1]) or slow_moved(table, table[1][turn], least) in group:
            return None, len(ups) + number
    return (len(group), None) if len(outs) == len(leasts) else (None, len(ups) + len(leasts))


class Papers(Case):
    def agrees(self, table, wish, paper):
        many, place = slow_place(table, wish, paper)
        if many is None:
            self.refused(BadPaper, place, check_top, table, wish, paper)
        else:
            self.assertEqual(check_top(table, wish, paper), many)

    def test_by_hand(self):
        self.assertEqual(top_paper(CALM_ONE, noughts(CALM_ONE)), (((1,),), ()))
        self.assertEqual(top_paper(SWAP, tuple(slow_orbits(SWAP))), ((), ()))
        self.assertEqual(check_top(SWAP, tuple(slow_orbits(SWAP)), ((), ())), 9)
        self.assertEqual(check_top(TURN_THREE, noughts(TURN_THREE), PAPER), 2)
        self.assertEqual(check_top(SWAP, noughts(SWAP), (((2, 2),), (((0, 1), 1), ((0, 2), 1)))), 3)
        self.assertEqual(check_top(SWAP, noughts(SWAP), (((1, 1),), (((0, 1), 1), ((0, 2), 1)))), 3)

    def test_top_paper_is_let_by(self):
        for table in SMALL_TABLES + [(2, mirrored(6)), (3, ring(5)), (9, ring(3)), (2, ring(8)),
                                     (3, side_by_side(ring(3), ring(3)))]:
            for wish in even_wishes(table):
                paper = top_paper(table, wish)
                self.assertEqual(check_top(table, wish, paper), steps(table, wish)[-1])
                self.assertIs(type(paper), tuple)
                self.assertEqual([type(part) for part in paper], [tuple, tuple])
                self.assertEqual(top_paper(table, wish), paper)

    def test_against_the_words(self):
        for table in SMALL_TABLES[:10]:
            for wish in even_wishes(table):
                self.agrees(table, wish, top_paper(table, wish))

    def test_ups_in_any_order_that_holds(self):
        table = RING_FOUR
        for ups in itertools.product(slow_stands(table), repeat=2):
            self.agrees(table, alike(table), (ups, ()))
        first = ((0, 1, 0, 1), (0, 0, 1, 1), (0, 0, 0, 1))
        self.assertEqual(check_top(table, alike(table), (first, ())), 16)
        for ups in itertools.permutations(first):
            self.agrees(table, alike(table), (ups, ()))

    def test_altered_ups(self):
        for table in (TURN_THREE, SWAP, RING_FOUR, (3, ring(3)), (4, ring(2)), (2, mirrored(4))):
            for wish in even_wishes(table)[:6]:
                ups, outs = top_paper(table, wish)
                for at in range(len(ups)):
                    self.agrees(table, wish, (ups[:at] + ups[at + 1:], outs))
                    self.agrees(table, wish, (ups[:at] + (ups[at],) + ups[at:], outs))
                    for stand in slow_stands(table):
                        self.agrees(table, wish, (ups[:at] + (stand,) + ups[at + 1:], outs))
                self.agrees(table, wish, (ups[::-1], outs))
                for stand in slow_stands(table):
                    self.agrees(table, wish, (ups + (stand,), outs))

    def test_altered_outs(self):
        for table in (TURN_THREE, SWAP, (3, ring(5)), (3, TURN_THREE[1]), (2, SMALL_TABLES[7][1])):
            for wish in even_wishes(table)[:3]:
                ups, outs = top_paper(table, wish)
                for at, (stand, number) in list(enumerate(outs))[:6]:
                    self.agrees(table, wish, (ups, outs[:at] + outs[at + 1:]))
                    self.agrees(table, wish, (ups, outs[:at] + (outs[at],) + outs[at:]))
                    self.agrees(table, wish, (ups, outs[:at] + outs[at:][::-1]))
                    for turn in (-1, 0, 1, 2, len(table[1]) - 1, len(table[1]), 10 ** 20):
                        self.agrees(table, wish, (ups, outs[:at] + ((stand, turn),) + outs[at + 1:]))
                    for other in slow_stands(table)[:12]:
                        self.agrees(table, wish, (ups, outs[:at] + ((other, number),) + outs[at + 1:]))
                self.agrees(table, wish, (ups, outs[:-1]))
                self.agrees(table, wish, (ups, ()))
                self.agrees(table, wish, (ups, outs + (((0,) * len(table[1][0]), 0),)))

    def test_places_by_hand(self):
        wish = noughts(TURN_THREE)
        ups, outs = PAPER

        def bad(place, paper):
            self.refused(BadPaper, place, check_top, TURN_THREE, wish, paper)

        bad(3, ((), outs))                                   # M is NOUGHTS alone: of seven classes four lack.
        bad(3, (ups, outs[:2]))
        bad(1, (ups, ()))
        bad(4, (ups, outs + (((1, 1, 1), 1),)))
        bad(1, (ups * 2, outs))
        bad(0, (((0, 0, 1),) + ups, outs))
        bad(0, (((0, 0, 0),) + ups, outs))
        bad(1, (ups, outs[::-1]))
        bad(2, (ups, (outs[0], outs[2], outs[1])))
        bad(1, (ups, (((1, 1, 0), 1),) + outs[1:]))          # Of the class, but not its least STAND.
        bad(1, (ups, (((0, 0, 1), 0),) + outs[1:]))          # The CALM one moves nothing.
        bad(2, (ups, (outs[0], ((0, 1, 0), 3), outs[2])))
        bad(2, (ups, (outs[0], ((0, 1, 0), -1), outs[2])))

    def test_without_an_up_the_first_that_no_turning_moves(self):
        # By NOUGHTS alone (1, 1, 1) is a class that no TURNING moves: no number will do there.
        table = TURN_THREE
        outs = tuple((stand, 1) for stand in slow_stands(table)[1:])
        self.refused(BadPaper, 6, check_top, table, noughts(table), ((), outs))

    def test_things_that_are_no_paper(self):
        wish = noughts(TURN_THREE)
        for thing in ODD_THINGS + [PAPER[:1], PAPER + ((),), list(PAPER), (list(PAPER[0]), PAPER[1]),
                                   (PAPER[0], list(PAPER[1])), (None, ()), ((), None)]:
            self.refused(BadPaper, None, check_top, TURN_THREE, wish, thing)
        ups, outs = PAPER
        for thing in ODD_THINGS + [[1, 1, 1], (1, 1, True), (1, 1), (1, 1, 1, 1), (1, 1, 2), (1, 1, "1")]:
            self.refused(BadPaper, 0, check_top, TURN_THREE, wish, ((thing,), outs))
            self.refused(BadPaper, 1, check_top, TURN_THREE, wish, (ups + (thing,), outs))
            self.refused(BadPaper, 1, check_top, TURN_THREE, wish, (ups, (thing,) + outs[1:]))
            self.refused(BadPaper, 2, check_top, TURN_THREE, wish, (ups, (outs[0], (thing, 1), outs[2])))
        for turn in [True, None, "1", 1.0, (1,), [1], {}]:
            self.refused(BadPaper, 3, check_top, TURN_THREE, wish, (ups, outs[:2] + (((0, 1, 1), turn),)))
        self.refused(BadPaper, 1, check_top, TURN_THREE, wish, (ups, (((0, 0, True), 1),) + outs[1:]))
        self.refused(BadPaper, 1, check_top, TURN_THREE, wish, (ups, (list(outs[0]),) + outs[1:]))
        self.refused(BadPaper, 1, check_top, TURN_THREE, wish, (ups, (outs[0] + (1,),) + outs[1:]))
        self.refused(BadPaper, 2, check_top, TURN_THREE, wish, (ups, (outs[0], outs[1][:1], outs[2])))

    def test_by_names(self):
        self.assertEqual(top_paper(wish=noughts(CALM_ONE), table=CALM_ONE), (((1,),), ()))
        self.assertEqual(check_top(paper=PAPER, wish=noughts(TURN_THREE), table=TURN_THREE), 2)


class Refusals(Case):
    def test_order(self):
        for call, args in ((top_paper, ()), (check_top, (None,))):
            self.refused(BadTable, "closed", call, BAD_TABLE, None, *args)
            self.refused(BadTable, None, call, None, None, *args)
            for wish, number in ((None, None), ((), None), (((1, 0),), 0), (((0, 1), (0, 1)), 1), ((UNEVEN[0], 3), 1)):
                self.refused(BadWish, number, call, SWAP, wish, *args)
            self.barred(NotEven, call, SWAP, UNEVEN, *args)
            self.barred(NotEven, call, SWAP, ((0, 0), (1, 1)), *args)


if __name__ == "__main__":
    unittest.main()
