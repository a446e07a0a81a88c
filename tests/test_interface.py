"""The interface: where each function stands, and what its arguments are called."""

import importlib
import inspect
import unittest

TOLD = {
    "tables": ["is_whole(thing)", "is_among(thing, least, most)", "is_table(thing)", "need_table(thing)", "seats(table)",
               "stands(table)", "is_stand(table, thing)", "is_turning(table, thing)", "need_stand(table, thing)",
               "need_turning(table, thing)", "need_row(table, row)", "turned(turning, stand)",
               "added(table, stand, other)", "less(table, stand, other)", "opposite(table, stand)", "nought(table)",
               "walked(table, run, row)"],
    "turnings": ["are_turnings(thing)", "then(first, later)", "back(turning)", "often(turning, count)",
                 "rounds(turning)", "how_often(turning)"],
    "making": ["made(seats, turnings)", "ring(seats)", "mirrored(seats)", "side_by_side(first, later)",
               "nested(inner, outer)"],
    "company": ["together(turnings)", "bringing(turnings, seat, goal)", "still(turnings, seat)",
                "are_part(turnings, thing)", "shares(turnings, part)", "many_orbits(faces, turnings)"],
    "blocks": ["is_parting(seats, thing)", "is_kept(turnings, thing)", "kept_with(turnings, seat, goal)",
               "joined_of(seats, first, later)", "all_kept(turnings)", "among(turnings, parting)",
               "within(turnings, parting)"],
    "renaming": ["renamed(turnings, names)", "renaming(first, later)", "many_names(turnings)"],
    "orbits": ["least_of(table, stand)", "orbit_of(table, stand)", "keeping(table, stand)", "ways(table, stand, deed)",
               "orbits(table)"],
    "wishes": ["is_wish(table, thing)", "need_wish(table, wish)", "noughts(table)", "alike(table)",
               "wish_by(table, stands)", "even_by(table, stands)", "wished(table, wish)",
               "is_wished(table, wish, stand)", "is_even(table, wish)"],
    "lots": ["need_lot(table, wish, lot)", "whole_lot(table, wish)", "behind(table, wish, lot, deed)",
             "kinds_of_deeds(table, wish)"],
    "rows": ["sorts(table, *, lets=None)", "lots_of(table, wish, row, *, lot=None)",
             "is_sure(table, wish, row, *, lot=None)", "latest(table, wish, row, *, lot=None)",
             "escape(table, wish, row, *, lot=None)", "is_escape(table, wish, row, thing, *, lot=None)",
             "told_back(table, row)", "escape_back(table, wish, row, thing)",
             "fewest(table, wish, *, lets=None, lot=None)", "least_row(table, wish, *, lets=None, lot=None)",
             "count_least(table, wish, *, lets=None, lot=None)"],
    "papers": ["fall(table, wish, row, *, lot=None)", "check_fall(table, wish, row, paper, *, lot=None)",
               "layers(table, wish, many, *, lets=None, lot=None)",
               "check_layers(table, wish, paper, *, lets=None, lot=None)",
               "family(table, wish, *, lets=None, lot=None)", "check_family(table, wish, paper, *, lets=None, lot=None)"],
    "stairs": ["heart(table, wish)", "steps(table, wish)", "step_of(table, wish, stand)", "can_be_sure(table, wish, lot)",
               "by_prime(table)"],
    "built": ["built_row(table, wish)", "missed(table, wish, row)", "keeping_out(table, wish, stand, deed)",
              "lost(table, wish, row, stand)"],
    "toppapers": ["top_paper(table, wish)", "check_top(table, wish, paper)"],
    "feeling": ["need_pattern(table, pattern)", "need_hands(table, hands)", "pattern_turned(turning, pattern)",
                "shape_of(table, pattern)", "shapes(table, hands)", "felts(table, wish, lot, pattern)",
                "left_by(table, wish, lot, pattern, felt, setting)"],
    "plans": ["check_plan(table, wish, hands, plan)", "depth_by(table, wish, hands, plan, lot)",
              "depth(table, wish, hands, lot)", "plan_of(table, wish, hands, lot)", "depths(table, wish, hands)",
              "hands_needed(table, wish, lot)"],
    "bands": ["check_band(table, wish, hands, band)", "is_lost_by(table, wish, hands, band, lot)",
              "band_of(table, wish, hands)"],
}


class Interface(unittest.TestCase):
    def test_functions(self):
        for file, told in TOLD.items():
            module = importlib.import_module("unseenturn." + file)
            for line in told:
                with self.subTest(file=file, line=line):
                    function = getattr(module, line.partition("(")[0])
                    self.assertEqual(function.__name__ + str(inspect.signature(function)), line)
                    self.assertEqual(function.__module__, module.__name__)


if __name__ == "__main__":
    unittest.main()
