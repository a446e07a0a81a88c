"""Points 60 to 63: hearings, their runs, what must have been, hearings turned along and told back."""

import itertools
import random
import unittest

from tests.helpers import (
    CALM_ONE, ODD_THINGS, SMALL_TABLES, SWAP, TURN_THREE, Case, all_orders, random_hearing, random_step, slow_faces,
    slow_free, slow_least, slow_orbit, slow_orbits, slow_patterns, slow_runs, slow_stands, slow_turned, slow_wished)
from unseenturn.errors import BadHearing, BadRun, BadTable, BadWish, Never, OutOfPlace
from unseenturn.hearings import (
    MOST_STEPS, begins, ends, first_run, fits, hearing_back, is_hearing, is_run, need_hearing, runs, sure_faces, through,
    turned_along)
from unseenturn.making import mirrored, ring
from unseenturn.maps import part_wish
from unseenturn.rows import is_sure
from unseenturn.wishes import alike, noughts

BAD_TABLE = (2, ((1, 0),))
CALM_THREE = (0, 1, 2)
ON, OFF = (1, 2, 0), (2, 0, 1)
WISH = ((0, 0, 0), (1, 1, 1))
BLIND = ("blind", (0, 0, 1), False)
RING = ("blind", (0, 0, 1), True)
FELT = ("felt", (0, 2), (0, 1), (1, 1), False)
FELT_RING = ("felt", (0, 2), (0, 1), (1, 1), True)

TABLES = [SWAP, TURN_THREE, (2, all_orders(3)), CALM_ONE, (3, ((0, 1),)), (2, ring(4)), (2, ((0, 1, 2), (1, 0, 2)))]

NO_STEPS = ODD_THINGS + [
    (), ("blind",), ("blind", (0, 0, 1)), ("blind", (0, 0, 1), False, False), ["blind", (0, 0, 1), False],
    ("blind", (0, 0, 2), False), ("blind", (0, 1), False), ("blind", [0, 0, 1], False), ("blind", (0, 0, True), False),
    ("blind", None, False), ("blind", (0, 0, 1), 0), ("blind", (0, 0, 1), 1), ("blind", (0, 0, 1), None),
    ("blind", (0, 0, 1), "False"), ("blind", (0, 0, 1), ()), ("Blind", (0, 0, 1), False), (b"blind", (0, 0, 1), False),
    (0, (0, 0, 1), False), ("felt", (0, 0, 1), False), ("blind", (0, 2), (0, 1), (1, 1), False), ("", (0, 0, 1), False),
    ("felt", (0, 2), (0, 1), (1, 1)), ("felt", (0, 2), (0, 1), False), ("felt", (0, 2), (0, 1), (1, 1), False, False),
    ("felt", (0, 2), (0, 1), (1, 1), 0), ("felt", (0, 2), (0, 1), (1, 1), None), ("felt", (2, 0), (0, 1), (1, 1), False),
    ("felt", (0, 0), (0, 1), (1, 1), False), ("felt", (0, 3), (0, 1), (1, 1), False), ("felt", (), (), (), False),
    ("felt", [0, 2], (0, 1), (1, 1), False), ("felt", (False, 2), (0, 1), (1, 1), False), ("felt", None, (0,), (1,), False),
    ("felt", (0, 2), (0,), (1, 1), False), ("felt", (0, 2), (0, 1), (1,), False), ("felt", (0, 2), (0, 2), (1, 1), False),
    ("felt", (0, 2), (0, 1), (1, -1), False), ("felt", (0, 2), [0, 1], (1, 1), False), (None, (0, 2), (0, 1), (1, 1), False),
    ("felt", (0, 2), (0, 1), [1, 1], False), ("felt", (0, 2), (0, True), (1, 1), False),
    ("felt", (0, 2), (0, 1), (1, True), False), ("felt", (0, 2), (0, 1, 1), (1, 1, 1), False),
    ("felt", (0, 2), None, None, False), ("felt", (0, 2), (0, "1"), (1, 1), False)]


def hearings_of(seed, many, most):
    """Tables, wishes and small hearings, told by chance."""
    chance = random.Random(seed)
    for table in TABLES:
        orbits = slow_orbits(table)
        for _ in range(many):
            wish = chance.choice([noughts(table), alike(table), tuple(sorted(chance.sample(orbits, 1)))])
            yield table, wish, random_hearing(chance, table, wish, chance.randint(0, most))


def counted(things):
    found = {}
    for thing in things:
        found[thing] = found.get(thing, 0) + 1
    return sorted(found.items())


class Form(Case):
    def test_good_ones(self):
        for hearing in ((), (BLIND,), (RING,), (FELT,), (FELT_RING,), (BLIND, FELT, BLIND, RING), (BLIND,) * 100,
                        (FELT,) * 99 + (FELT_RING,)):
            self.assertIs(is_hearing(TURN_THREE, WISH, hearing), True)
            self.assertIsNone(need_hearing(TURN_THREE, WISH, hearing))
        self.assertEqual(MOST_STEPS, 100)

    def test_no_hearings(self):
        for thing in ODD_THINGS + [(BLIND,) * 101, [BLIND], {BLIND: 1}, (None,) * 101, "blind"]:
            number = 0 if isinstance(thing, tuple) and len(thing) < 101 else None
            self.assertIs(is_hearing(TURN_THREE, WISH, thing), False)
            self.refused(BadHearing, number, need_hearing, TURN_THREE, WISH, thing)

    def test_no_steps(self):
        for thing in NO_STEPS:
            for ahead in ((), (BLIND,), (FELT, BLIND)):
                for behind in ((), (BLIND,), (None,)):
                    self.assertIs(is_hearing(TURN_THREE, WISH, ahead + (thing,) + behind), False)
                    self.refused(BadHearing, len(ahead), need_hearing, TURN_THREE, WISH, ahead + (thing,) + behind)

    def test_a_bell_with_a_step_behind_it(self):
        for hearing, number in (((RING, BLIND), 0), ((BLIND, RING, BLIND), 1), ((RING, RING), 0), ((BLIND, FELT_RING, FELT), 1),
                                ((RING, None), 0), ((BLIND, BLIND, RING, FELT_RING), 2), ((None, RING, BLIND), 0)):
            self.assertIs(is_hearing(TURN_THREE, WISH, hearing), False)
            self.refused(BadHearing, number, need_hearing, TURN_THREE, WISH, hearing)

    def test_is_run(self):
        hearing = (BLIND, FELT)
        good = ((0, 0, 1), (ON, OFF))
        self.assertIs(is_run(TURN_THREE, WISH, hearing, good), True)
        self.assertIs(is_run(TURN_THREE, WISH, (), ((0, 1, 0), ())), True)
        # A RUN of it may well not FIT.
        self.assertIs(fits(TURN_THREE, WISH, hearing, ((0, 0, 1), (CALM_THREE, OFF))), False)
        wrong = [((0, 0, 0), (ON, OFF)), ((1, 1, 1), (ON, OFF)), ((0, 0, 1), (ON,)), ((0, 0, 1), (ON, OFF, ON)),
                 ((0, 0, 1), [ON, OFF]), [(0, 0, 1), (ON, OFF)], ((0, 0, 1), (ON, (0, 2, 1))), ((0, 0, 2), (ON, OFF)),
                 ((0, 0, True), (ON, OFF)), ((0, 0, 1), (ON, (2, False, 1))), ((0, 0, 1), (ON, None)), good[:1],
                 good + ((),), ((0, 1), (ON, OFF)), (None, (ON, OFF)), ((0, 0, 1), None), ([0, 0, 1], (ON, OFF))]
        for thing in ODD_THINGS + wrong + [()]:
            self.assertIs(is_run(TURN_THREE, WISH, hearing, thing), False)
            self.assertIs(fits(TURN_THREE, WISH, hearing, thing), False)

    def test_fits_against_a_walk(self):
        for table, wish, hearing in hearings_of(1, 12, 2):
            found = slow_runs(table, wish, hearing)
            for stand in slow_stands(table):
                for turns in itertools.product(table[1], repeat=len(hearing)):
                    self.assertIs(fits(table, wish, hearing, (stand, turns)), (stand, turns) in found)
                    self.assertIs(is_run(table, wish, hearing, (stand, turns)), stand not in slow_wished(table, wish))


class Runs(Case):
    def agrees(self, table, wish, hearing):
        found = slow_runs(table, wish, hearing)
        many = len(found)
        self.assertEqual(runs(table, wish, hearing), many)
        self.assertEqual(first_run(table, wish, hearing), min(found) if found else None)
        told = [through(table, wish, hearing, number) for number in range(len(hearing) + 1)]
        for number, level in enumerate(told):
            self.assertEqual(level, counted([slow_least(table, stands[number]) for stands in found.values()]))
        self.assertEqual(begins(table, wish, hearing), told[0])
        self.assertEqual(ends(table, wish, hearing), counted([stands[-1] for stands in found.values()]))
        for level in told + [begins(table, wish, hearing), ends(table, wish, hearing)]:
            self.assertIs(type(level), list)
            self.assertEqual(sum(number for _, number in level), many)
            self.assertEqual([thing for thing, _ in level], sorted({thing for thing, _ in level}))
            self.assertTrue(all(type(pair) is tuple and pair[1] > 0 for pair in level))
        if many:
            self.assertIs(fits(table, wish, hearing, first_run(table, wish, hearing)), True)
            faces = [set(faces) for faces in zip(*[stands[-1] for stands in found.values()])]
            self.assertEqual(sure_faces(table, wish, hearing),
                             tuple(min(some) if len(some) == 1 else None for some in faces))
        else:
            self.barred(Never, sure_faces, table, wish, hearing)
        return many

    def test_by_hand(self):
        # Two faces on one seat: 1 isn't wished, and 0 is.
        wish = ((0,),)
        stay, go = ("blind", (0,), False), ("blind", (1,), True)
        self.assertEqual(runs(CALM_ONE, wish, ()), 1)
        self.assertEqual(runs(CALM_ONE, wish, (stay,) * 5 + (go,)), 1)
        self.assertEqual(runs(CALM_ONE, wish, (stay, go[:2] + (False,))), 0)
        self.assertEqual(first_run(CALM_ONE, wish, (stay, go)), ((1,), ((0,), (0,))))
        self.assertIsNone(first_run(CALM_ONE, wish, (stay[:2] + (True,),)))
        self.assertEqual(ends(CALM_ONE, wish, (stay, go)), [((0,), 1)])
        self.assertEqual(through(CALM_ONE, wish, (stay, go), 1), [((1,), 1)])
        self.assertEqual(sure_faces(CALM_ONE, wish, (stay, go)), (0,))
        # Three on a ring, one face is felt, and put as it was.
        look = ("felt", (0,), (0,), (0,), False)
        self.assertEqual(runs(TURN_THREE, WISH, (look,)), 9)
        self.assertEqual(begins(TURN_THREE, WISH, (look,)), [((0, 0, 1), 6), ((0, 1, 1), 3)])
        self.assertEqual(ends(TURN_THREE, WISH, (look,)), [((0, 0, 1), 3), ((0, 1, 0), 3), ((0, 1, 1), 3)])
        self.assertEqual(sure_faces(TURN_THREE, WISH, (look,)), (0, None, None))
        self.assertEqual(first_run(TURN_THREE, WISH, (look,)), ((0, 0, 1), (CALM_THREE,)))
        self.assertEqual(first_run(TURN_THREE, WISH, (("felt", (0,), (1,), (1,), False),)), ((0, 0, 1), (ON,)))
        self.assertEqual(sure_faces(TURN_THREE, WISH, (look[:3] + ((1,), True),)), (1, 1, 1))
        self.assertEqual(runs(TURN_THREE, WISH, ()), 6)
        self.assertEqual(ends(TURN_THREE, WISH, ()), [(stand, 1) for stand in slow_stands(TURN_THREE)[1:7]])
        self.assertEqual(begins(TURN_THREE, WISH, ()), [((0, 0, 1), 3), ((0, 1, 1), 3)])

    def test_against_a_walk_through_all_runs(self):
        some = [self.agrees(table, wish, hearing) for table, wish, hearing in hearings_of(2, 40, 3)]
        self.assertGreater(len([many for many in some if many]), 150)
        self.assertGreater(some.count(0), 20)

    def test_no_step_and_one_with_a_bell(self):
        for table in TABLES:
            for wish in (noughts(table), alike(table), tuple(slow_orbits(table))):
                self.agrees(table, wish, ())
                for deed in slow_stands(table)[:6]:
                    self.agrees(table, wish, (("blind", deed, True),))
                    self.agrees(table, wish, (("blind", deed, False),))
                for faces in slow_faces(table, 1):
                    self.agrees(table, wish, (("felt", (0,), faces, (0,), True),))

    def test_through_for_no_number(self):
        for hearing in ((), (BLIND,), (BLIND, FELT)):
            for many in (-1, len(hearing) + 1, True, False, None, "0", 0.0, (0,), [0], 10 ** 30, {}):
                self.barred(OutOfPlace, through, TURN_THREE, WISH, hearing, many)

    def test_a_hundred_steps(self):
        table = (3, mirrored(6))
        chance = random.Random(9)
        wish = (slow_orbits(table)[-1],)
        steps = [("blind", chance.choice(slow_stands(table)), False) for _ in range(99)]
        hearing = tuple(steps) + (("felt", (0,), (1,), (2,), True),)
        many = runs(table, wish, hearing)
        self.assertGreater(many, 12 ** 90)
        for level in (begins(table, wish, hearing), ends(table, wish, hearing), through(table, wish, hearing, 50)):
            self.assertEqual(sum(number for _, number in level), many)
        self.assertIs(fits(table, wish, hearing, first_run(table, wish, hearing)), True)
        self.assertEqual(sure_faces(table, wish, hearing), (2,) * 6)
        self.assertEqual(runs(table, wish, turned_along(table, wish, hearing, table[1][:5] * 20)), many)

    def test_a_stand_of_an_orbit_is_as_good_as_another(self):
        for table, wish, hearing in hearings_of(3, 6, 3):
            many = {}
            for stand, _ in slow_runs(table, wish, hearing):
                many[stand] = many.get(stand, 0) + 1
            for orbit, number in begins(table, wish, hearing):
                for stand in slow_orbit(table, orbit):
                    self.assertEqual(many[stand] * len(slow_orbit(table, orbit)), number)

    def test_with_fewer_turnings_no_other_run_fits(self):
        table, part = (2, ring(4)), (2, ((0, 1, 2, 3), (2, 3, 0, 1)))
        chance = random.Random(6)
        for _ in range(20):
            wish = alike(table)
            hearing = random_hearing(chance, table, wish, 3)
            self.assertLessEqual(set(slow_runs(part, part_wish(table, part, wish), hearing)),
                                 set(slow_runs(table, wish, hearing)))
            self.assertEqual(runs(part, part_wish(table, part, wish), hearing),
                             len(slow_runs(part, part_wish(table, part, wish), hearing)))

    def test_what_is_told_is_the_asker_s_own(self):
        for call in (begins, ends, lambda *told: through(*told, 1)):
            told = call(TURN_THREE, WISH, (BLIND,))
            again = list(told)
            told.clear()
            self.assertEqual(call(TURN_THREE, WISH, (BLIND,)), again)


class MoreSteps(Case):
    def test_one_step_more(self):
        chance = random.Random(5)
        for table, wish, hearing in hearings_of(4, 12, 3):
            if hearing and hearing[-1][-1]:
                continue
            due = runs(table, wish, hearing) * len(table[1])
            deed = chance.choice(slow_stands(table))
            told = [runs(table, wish, hearing + (("blind", deed, bell),)) for bell in (False, True)]
            self.assertEqual(sum(told), due)
            hands = chance.randint(1, len(table[1][0]))
            pattern, setting = chance.choice(slow_patterns(table, hands)), chance.choice(slow_faces(table, hands))
            told = [runs(table, wish, hearing + (("felt", pattern, felt, setting, bell),))
                    for bell in (False, True) for felt in slow_faces(table, hands)]
            self.assertEqual(sum(told), due)

    def test_turned_along_by_hand(self):
        self.assertEqual(turned_along(TURN_THREE, WISH, (), ()), ())
        self.assertEqual(turned_along(TURN_THREE, WISH, (("blind", (0, 1, 1), True),), (ON,)), (("blind", (1, 0, 1), True),))
        step = ("felt", (0, 2), (0, 1), (1, 0), False)
        self.assertEqual(turned_along(TURN_THREE, WISH, (step,), (CALM_THREE,)), (step,))
        # The thing of seat 0 comes to 1, that of 2 to 0: what was felt first is felt last now.
        self.assertEqual(turned_along(TURN_THREE, WISH, (step,), (ON,)), (("felt", (0, 1), (1, 0), (0, 1), False),))
        self.assertEqual(turned_along(TURN_THREE, WISH, (step, BLIND), (OFF, ON)),
                         (("felt", (1, 2), (1, 0), (0, 1), False), ("blind", (1, 0, 0), False)))

    def test_turned_along(self):
        chance = random.Random(7)
        for table, wish, hearing in hearings_of(8, 15, 3):
            turns = tuple(chance.choice(table[1]) for _ in hearing)
            goal = turned_along(table, wish, hearing, turns)
            self.assertIsNone(need_hearing(table, wish, goal))
            self.assertEqual(runs(table, wish, goal), runs(table, wish, hearing))
            for number in range(len(hearing) + 1):
                self.assertEqual(through(table, wish, goal, number), through(table, wish, hearing, number))
            last = turns[-1] if turns else tuple(range(len(table[1][0])))
            self.assertEqual(ends(table, wish, goal),
                             sorted((slow_turned(last, stand), many) for stand, many in ends(table, wish, hearing)))
            for turning, step, other in zip(turns, hearing, goal):
                self.assertEqual((other[0], other[-1]), (step[0], step[-1]))
                if step[0] == "blind":
                    self.assertEqual(other[1], slow_turned(turning, step[1]))
                else:
                    for part in (2, 3):
                        self.assertEqual(dict(zip(other[1], other[part])),
                                         {turning[seat]: face for seat, face in zip(step[1], step[part])})

    def test_turned_along_refused(self):
        hearing = (BLIND, FELT)
        for turns in ODD_THINGS + [(), (ON,), (ON, OFF, ON), [ON, OFF], ON, {ON: 1, OFF: 2}]:
            if turns != (ON, OFF):
                self.refused(BadRun, "turns", turned_along, TURN_THREE, WISH, hearing, turns)
        for turns, number in (((ON, (0, 2, 1)), 1), (((0, 2, 1), None), 0), ((None, ON), 0), ((ON, (2, False, 1)), 1),
                              (([1, 2, 0], ON), 0), ((ON, (0, 1)), 1), ((ON, "120"), 1)):
            self.refused(BadRun, number, turned_along, TURN_THREE, WISH, hearing, turns)
        self.refused(BadRun, "turns", turned_along, TURN_THREE, WISH, (), (ON,))
        self.refused(BadRun, "turns", turned_along, TURN_THREE, WISH, (), None)

    def test_back_by_hand(self):
        table = (3, ((0, 1), (1, 0)))
        hearing = (("blind", (0, 1), False), ("blind", (2, 2), False))
        self.assertEqual(hearing_back(table, noughts(table), hearing),
                         (("blind", (1, 1), False), ("blind", (0, 2), False)))
        self.assertEqual(hearing_back(table, noughts(table), ()), ())

    def test_back(self):
        chance = random.Random(11)
        for table in TABLES + [(4, ring(2)), (3, ring(3))]:
            for wish in (noughts(table), alike(table), (slow_orbits(table)[1],)):
                for many in (0, 1, 2, 3, 5):
                    hearing = tuple(("blind", chance.choice(slow_stands(table)), False) for _ in range(many))
                    back = hearing_back(table, wish, hearing)
                    self.assertEqual(hearing_back(table, wish, back), hearing)
                    self.assertEqual(runs(table, wish, back), runs(table, wish, hearing))
                    for number in range(many + 1):
                        self.assertEqual(through(table, wish, back, number), through(table, wish, hearing, many - number))

    def test_back_out_of_place(self):
        for hearing in ((RING,), (FELT,), (FELT_RING,), (BLIND, RING), (BLIND, FELT), (FELT, BLIND), (FELT, RING)):
            self.barred(OutOfPlace, hearing_back, TURN_THREE, WISH, hearing)

    def test_a_row_is_sure_just_where_it_is_not_heard_without_a_bell(self):
        chance = random.Random(12)
        some = 0
        for table in SMALL_TABLES[:12]:
            for wish in (noughts(table), alike(table), tuple(slow_orbits(table)[1:])):
                for many in (0, 1, 2, 3, 7):
                    row = tuple(chance.choice(slow_stands(table)) for _ in range(many))
                    hearing = tuple(("blind", deed, False) for deed in row)
                    sure = is_sure(table, wish, row)
                    self.assertIs(runs(table, wish, hearing) == 0, sure)
                    some += sure
        self.assertGreater(some, 10)


class Refusals(Case):
    CALLS = [(is_hearing, None), (need_hearing, None), (is_run, "thing"), (fits, "thing"), (runs, None), (first_run, None),
             (begins, None), (ends, None), (through, "many"), (sure_faces, None), (turned_along, "turns"),
             (hearing_back, None)]

    def test_order(self):
        for call, last in self.CALLS:
            more = {last: None} if last else {}
            for table, place in ((BAD_TABLE, "closed"), (None, None), ([], None)):
                self.refused(BadTable, place, call, table=table, wish=None, hearing=None, **more)
            for wish, number in ((None, None), ((), None), (((0, 0, 1), (0, 0, 1)), 1), (((1, 0, 0),), 0), ((None,), 0)):
                self.refused(BadWish, number, call, table=TURN_THREE, wish=wish, hearing=None, **more)
            if call != is_hearing:
                for hearing, number in ((None, None), ([], None), ((BLIND, None), 1), ((RING, BLIND), 0)):
                    self.refused(BadHearing, number, call, table=TURN_THREE, wish=WISH, hearing=hearing, **more)

    def test_anything(self):
        for thing in ODD_THINGS:
            number = 0 if isinstance(thing, tuple) else None
            for call, last in self.CALLS:
                more = (None,) if last else ()
                self.refused(BadTable, None, call, thing, WISH, (), *more)
                self.refused(BadWish, number, call, TURN_THREE, thing, (), *more)
                if call != is_hearing:
                    self.refused(BadHearing, number, call, TURN_THREE, WISH, thing, *more)

    def test_by_names(self):
        told = {"hearing": (BLIND,), "wish": WISH, "table": TURN_THREE}
        self.assertIs(is_hearing(**told), True)
        self.assertIsNone(need_hearing(**told))
        self.assertIs(is_run(thing=((0, 0, 1), (ON,)), **told), True)
        self.assertIs(fits(thing=((0, 0, 1), (ON,)), **told), True)
        self.assertEqual(runs(**told), 12)
        self.assertEqual(first_run(**told), ((0, 0, 1), (ON,)))
        self.assertEqual(begins(**told), begins(TURN_THREE, WISH, (BLIND,)))
        self.assertEqual(ends(**told), ends(TURN_THREE, WISH, (BLIND,)))
        self.assertEqual(through(many=0, **told), begins(**told))
        self.assertEqual(sure_faces(**told), (None, None, None))
        self.assertEqual(turned_along(turns=(ON,), **told), (("blind", (1, 0, 0), False),))
        self.assertEqual(hearing_back(**told), (BLIND,))


if __name__ == "__main__":
    unittest.main()
