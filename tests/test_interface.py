"""The interface: where each function stands, and what its arguments are called."""

import importlib
import inspect
import unittest

from unseenturn import hearings, lots, tables
from unseenturn.opens import OpenTable

TOLD = {
    "tables": ["is_whole(thing)", "is_among(thing, least, most)", "is_table(thing)", "need_table(thing)", "seats(table)",
               "stands(table)", "is_stand(table, thing)", "is_turning(table, thing)", "need_stand(table, thing)",
               "need_turning(table, thing)", "need_row(table, row)", "turned(turning, stand)",
               "added(table, stand, other)", "less(table, stand, other)", "opposite(table, stand)", "nought(table)",
               "walked(table, run, row)"],
    "turnings": ["are_turnings(thing)", "then(first, later)", "back(turning)", "often(turning, count)",
                 "rounds(turning)", "how_often(turning)"],
    "making": ["made(seats, turnings)", "ring(seats)", "mirrored(seats)", "side_by_side(first, later)",
               "nested(inner, outer)"],
    "company": ["together(turnings)", "bringing(turnings, seat, goal)", "still(turnings, seat)",
                "are_part(turnings, thing)", "shares(turnings, part)", "many_orbits(faces, turnings)"],
    "blocks": ["is_parting(seats, thing)", "is_kept(turnings, thing)", "kept_with(turnings, seat, goal)",
               "joined_of(seats, first, later)", "all_kept(turnings)", "among(turnings, parting)",
               "within(turnings, parting)"],
    "renaming": ["renamed(turnings, names)", "renaming(first, later)", "many_names(turnings)"],
    "orbits": ["least_of(table, stand)", "orbit_of(table, stand)", "keeping(table, stand)", "ways(table, stand, deed)",
               "orbits(table)"],
    "wishes": ["is_wish(table, thing)", "need_wish(table, wish)", "noughts(table)", "alike(table)",
               "wish_by(table, stands)", "even_by(table, stands)", "wished(table, wish)",
               "is_wished(table, wish, stand)", "is_even(table, wish)"],
    "lots": ["need_lot(table, wish, lot)", "whole_lot(table, wish)", "behind(table, wish, lot, deed)",
             "kinds_of_deeds(table, wish)"],
    "rows": ["sorts(table, *, lets=None)", "lots_of(table, wish, row, *, lot=None)",
             "is_sure(table, wish, row, *, lot=None)", "latest(table, wish, row, *, lot=None)",
             "escape(table, wish, row, *, lot=None)", "is_escape(table, wish, row, thing, *, lot=None)",
             "told_back(table, row)", "escape_back(table, wish, row, thing)",
             "fewest(table, wish, *, lets=None, lot=None)", "least_row(table, wish, *, lets=None, lot=None)",
             "count_least(table, wish, *, lets=None, lot=None)"],
    "papers": ["fall(table, wish, row, *, lot=None)", "check_fall(table, wish, row, paper, *, lot=None)",
               "layers(table, wish, many, *, lets=None, lot=None)",
               "check_layers(table, wish, paper, *, lets=None, lot=None)",
               "family(table, wish, *, lets=None, lot=None)", "check_family(table, wish, paper, *, lets=None, lot=None)"],
    "stairs": ["heart(table, wish)", "steps(table, wish)", "step_of(table, wish, stand)", "can_be_sure(table, wish, lot)",
               "by_prime(table)"],
    "built": ["built_row(table, wish)", "missed(table, wish, row)", "keeping_out(table, wish, stand, deed)",
              "lost(table, wish, row, stand)"],
    "toppapers": ["top_paper(table, wish)", "check_top(table, wish, paper)"],
    "feeling": ["need_pattern(table, pattern)", "need_hands(table, hands)", "pattern_turned(turning, pattern)",
                "shape_of(table, pattern)", "shapes(table, hands)", "felts(table, wish, lot, pattern)",
                "left_by(table, wish, lot, pattern, felt, setting)"],
    "plans": ["check_plan(table, wish, hands, plan)", "depth_by(table, wish, hands, plan, lot)",
              "depth(table, wish, hands, lot)", "plan_of(table, wish, hands, lot)", "depths(table, wish, hands)",
              "hands_needed(table, wish, lot)"],
    "bands": ["check_band(table, wish, hands, band)", "is_lost_by(table, wish, hands, band, lot)",
              "band_of(table, wish, hands)"],
    "hearings": ["is_hearing(table, wish, hearing)", "need_hearing(table, wish, hearing)",
                 "is_run(table, wish, hearing, thing)", "fits(table, wish, hearing, thing)", "runs(table, wish, hearing)",
                 "first_run(table, wish, hearing)", "begins(table, wish, hearing)", "ends(table, wish, hearing)",
                 "through(table, wish, hearing, many)", "sure_faces(table, wish, hearing)",
                 "turned_along(table, wish, hearing, turns)", "hearing_back(table, wish, hearing)"],
    "clashes": ["first_wrong(table, wish, hearing)", "are_clashing(table, wish, hearing, steps)",
                "least_clash(table, wish, hearing)", "trail(table, wish, hearing, steps)",
                "check_trail(table, wish, hearing, steps, paper)"],
    "maps": ["divisors(table)", "divided(table, divisor)", "divided_stand(table, divisor, stand)",
             "divided_row(table, divisor, row)", "divided_wish(table, divisor, wish)", "is_blocks(table, blocks)",
             "blocked(table, blocks)", "blocked_stand(table, blocks, stand)", "blocked_row(table, blocks, row)",
             "blocked_wish(table, blocks, wish)", "is_part(table, part)", "part_wish(table, part, wish)",
             "beside(table, other)", "beside_wish(table, other, wish, far_wish)"],
}

OPEN_METHODS = ["do(self, deed)", "feel(self, pattern)", "put(self, setting)", "has_rung(self)", "held(self)",
                "needed(self)", "best(self)", "amid(self)", "heard(self)", "run(self)"]

# What is handed in under a name, by default and where a file or a function needs another thing.
RING = ((0, 1, 2, 3), (1, 2, 3, 0), (2, 3, 0, 1), (3, 0, 1, 2))
TABLE = (2, RING)
ALIKE = ((0, 0, 0, 0), (1, 1, 1, 1))
ACROSS = (0, 1, 0, 1)
FELT = ("felt", (0,), (0,), (1,), False)
PLAN = (((ACROSS,), 1, (0, 2), (((0, 0), (1, 1)), ((1, 1), (0, 0)))),)
GIVEN = {
    "thing": (0, 1), "least": 0, "most": 3, "table": TABLE, "row": (ACROSS,), "turning": (1, 2, 3, 0), "stand": (0, 0, 1, 1),
    "other": (0, 1, 1, 1), "run": ((0, 0, 0, 0), ((1, 2, 3, 0),)), "first": (1, 2, 3, 0), "later": (0, 1, 3, 2), "count": 3,
    "seats": 4, "turnings": RING, "inner": ((0, 1), (1, 0)), "outer": ((0, 1), (1, 0)), "seat": 0, "goal": 2,
    "part": ((0, 1, 2, 3), (2, 3, 0, 1)), "faces": 3, "parting": ((0, 2), (1, 3)), "names": (0, 2, 1, 3), "deed": ACROSS,
    "wish": ALIKE, "stands": (ACROSS,), "lot": (ACROSS,), "lets": (ACROSS,), "many": 1, "paper": None, "hands": 2,
    "pattern": (0, 2), "felt": (0, 0), "setting": (1, 1), "plan": PLAN, "band": (), "hearing": (FELT,), "turns": ((1, 2, 3, 0),),
    "steps": (0,), "divisor": 2, "blocks": ((0, 2), (1, 3)), "far_wish": ((0,),)}
OTHERWISE = {
    ("tables", "need_table", "thing"): TABLE, ("tables", "need_stand", "thing"): ACROSS,
    ("tables", "need_turning", "thing"): (1, 2, 3, 0),
    ("blocks", "joined_of", "first"): ((0, 1), (2,), (3,)), ("blocks", "joined_of", "later"): ((0,), (1, 2), (3,)),
    ("making", "side_by_side", "first"): ((0, 1),), ("making", "side_by_side", "later"): ((0, 1), (1, 0)),
    ("renaming", "renaming", "first"): RING, ("renaming", "renaming", "later"): RING,
    ("rows", "escape_back", "thing"): ((0, 0, 0, 1), ((0, 1, 2, 3),)),
    ("papers", "check_fall", "paper"): ((ACROSS,), ()), ("papers", "check_layers", "paper"): (((((ACROSS,), ())),),),
    ("papers", "check_family", "paper"): (((ACROSS,), (0,)),), ("papers", "check_family", "lets"): ((0, 0, 0, 0),),
    ("papers", "family", "lets"): ((0, 0, 0, 0),), ("rows", "latest", "row"): (ACROSS,),
    ("built", "keeping_out", "table"): (2, ((0, 1, 2), (1, 2, 0), (2, 0, 1))), ("built", "keeping_out", "wish"): ((0, 0, 0),),
    ("built", "keeping_out", "stand"): (0, 0, 1), ("built", "keeping_out", "deed"): (0, 1, 1),
    ("built", "lost", "table"): (2, ((0, 1, 2), (1, 2, 0), (2, 0, 1))), ("built", "lost", "wish"): ((0, 0, 0),),
    ("built", "lost", "stand"): (0, 0, 1), ("built", "lost", "row"): ((0, 1, 1),),
    ("toppapers", "check_top", "paper"): ((ACROSS, (0, 0, 1, 1), (0, 0, 0, 1)), ()),
    ("hearings", "turned_along", "hearing"): (("blind", ACROSS, False),),
    ("hearings", "hearing_back", "hearing"): (("blind", (0, 0, 0, 1), False),),
    ("clashes", "trail", "hearing"): (("blind", (0, 0, 0, 0), True),),
    ("clashes", "check_trail", "hearing"): (("blind", (0, 0, 0, 0), True),),
    ("clashes", "check_trail", "paper"): (((0, 0, 0, 1), (0, 0, 1, 1), ACROSS, (0, 1, 1, 1)), ()),
    ("clashes", "least_clash", "hearing"): (("blind", (0, 0, 0, 0), True),),
    ("maps", "is_part", "part"): (2, ((0, 1, 2, 3),)), ("maps", "part_wish", "part"): (2, ((0, 1, 2, 3),)),
    ("maps", "beside", "other"): (2, ((0,),)), ("maps", "beside_wish", "other"): (2, ((0,),))}
OTHERWISE.update({("maps", name, "table"): (4, RING) for name in ("divided", "divided_stand", "divided_row", "divided_wish")})
OTHERWISE[("maps", "divided_wish", "wish")] = ((0, 0, 0, 0), (0, 0, 0, 3))


def changed(thing):
    """Alter what can be altered of what was told."""
    if isinstance(thing, list):
        thing.reverse()
        thing.append(None)
    elif isinstance(thing, dict):
        thing[None] = None


class Interface(unittest.TestCase):
    def each(self):
        """Each function with what is handed in by places and by names alone."""
        for file, told in TOLD.items():
            module = importlib.import_module("unseenturn." + file)
            for line in told:
                name = line.partition("(")[0]
                ahead, _, behind = line.partition("(")[2][:-1].partition("*, ")
                names = [[word.partition("=")[0].strip() for word in part.split(",") if word.strip()]
                         for part in (ahead, behind)]
                given = [{word: OTHERWISE.get((file, name, word), GIVEN[word]) for word in part} for part in names]
                yield getattr(module, name), given[0], given[1]

    def test_by_places_and_by_names_in_another_order(self):
        for function, ahead, behind in self.each():
            with self.subTest(function=function.__name__, file=function.__module__):
                due = function(*ahead.values(), **behind)
                named = list(ahead.items()) + list(behind.items())
                for told in (named, named[::-1], named[1:] + named[:1]):
                    self.assertEqual(function(**dict(told)), due)

    def test_what_stands_behind_a_star_is_handed_in_by_name_alone(self):
        for function, ahead, behind in self.each():
            if behind:
                with self.assertRaises(TypeError):
                    function(*ahead.values(), *behind.values())

    def test_what_is_told_is_the_asker_s_own_and_the_same_again(self):
        for function, ahead, behind in self.each():
            with self.subTest(function=function.__name__, file=function.__module__):
                due = repr(function(*ahead.values(), **behind))
                changed(function(*ahead.values(), **behind))
                self.assertEqual(repr(function(*ahead.values(), **behind)), due)

    def test_tuples_and_whole_numbers_of_a_kind(self):
        for function, ahead, behind in self.each():
            kinds = {type(thing) for thing in [*ahead.values(), *behind.values()]}
            self.assertLessEqual(kinds, {tuple, int})

    def test_class(self):
        self.assertEqual(str(inspect.signature(OpenTable)), "(table, wish, *, lets=None, hands=None, lot=None)")
        self.assertEqual(OpenTable.__module__, "unseenturn.opens")
        for line in OPEN_METHODS:
            method = vars(OpenTable)[line.partition("(")[0]]
            self.assertEqual(method.__name__ + str(inspect.signature(method)), line)

    def test_numbers(self):
        told = (tables.MOST_SEATS, tables.MOST_FACES, tables.MOST_STANDS, tables.MOST_TURNINGS, lots.MOST_UNWISHED,
                lots.MOST_ORBITS, hearings.MOST_STEPS)
        self.assertEqual(told, (8, 9, 729, 128, 12, 40, 100))

    def test_functions(self):
        for file, told in TOLD.items():
            module = importlib.import_module("unseenturn." + file)
            for line in told:
                with self.subTest(file=file, line=line):
                    function = getattr(module, line.partition("(")[0])
                    self.assertEqual(function.__name__ + str(inspect.signature(function)), line)
                    self.assertEqual(function.__module__, module.__name__)


if __name__ == "__main__":
    unittest.main()
