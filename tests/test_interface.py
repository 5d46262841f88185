"""Names, parameters and places of all that the interface lists."""

import importlib
import inspect
import unittest

INTERFACE = {
    "webs": ("is_web(thing)", "is_lot(web, thing)", "plain_web(web)", "rest_of(web, lot)", "cut_of(web, lot)",
             "within(web, lot)", "without(web, lot)", "ends_of(web, number)", "parts_of(web)", "is_joined(web)",
             "judge_sides(web)", "sides_hold(web, thing)", "is_ring(web, thing)"),
    "renamings": ("led(web, renaming)", "renaming_between(one, other)", "plain_renaming(one, other)"),
    "texts": ("text_of(web)", "read_web(text)"),
    "pairings": ("is_pairing(web, thing)", "pairings(web)", "how_many(web)", "odd_rests(web, lot)",
                 "judge_pairing(web)", "pairing_holds(web, thing)"),
    "tiesin": ("judge_tie(web, number)", "tie_holds(web, number, thing)", "let_ties(web)", "needed_ties(web)"),
    "laid": ("laid(web, lot)", "is_tight(web, lot)", "loose_pairing(web, lot)", "tight_lots(web)", "sides_of(web, lot)",
             "joined_pairing(web, lot, near, far)"),
    "barriers": ("is_barrier(web, thing)", "barriers(web)", "classes(web)", "judge_akin(web, one, other)",
                 "akin_holds(web, one, other, thing)"),
    "bricks": ("is_threefold(web)", "judge_piece(web)", "piece_holds(web, thing)", "is_brick(web)", "is_brace(web)",
               "told_lot(web, thing)"),
    "lists": ("petersen()", "is_petersen(web)", "judge_list(ones, others)", "list_holds(ones, others, thing)"),
    "takings": ("taking(web)", "is_taking(web, thing)", "leaves(web, tree)", "lots_of(web, tree)",
                "taking_by(web, lots)", "piece_numbers(web)"),
    "spans": ("row_of(web, pairing)", "total(web, terms)", "judge_span(web, weights)", "span_holds(web, weights, thing)",
              "independent(web)", "span_number(web)", "are_independent(web, ones)"),
    "wholesums": ("judge_whole(web, weights)", "whole_holds(web, weights, thing)", "five_lots(web)",
                  "five_rings(web, lots)"),
    "mixes": ("judge_mix(web, weights)", "mix_holds(web, weights, thing)", "judge_even(web)", "parted(web)"),
    "halves": ("is_half(web, thing)", "row_of_half(web, half)", "halves(web)", "judge_halves(web, weights)",
               "halves_hold(web, weights, thing)", "ringed_half(web)"),
    "critical": ("is_critical(thing)", "leaving(web, place)", "are_ears(web, thing)", "judge_critical(web)",
                 "critical_holds(web, thing)", "shrinking_ring(web)"),
    "ears": ("is_row(web, thing)", "least_doubles(web)", "judge_ears(web, k)", "ears_hold(web, k, thing)",
             "pairings_along(web, row)"),
    "leaning": ("judge_leaning(web, one, other)", "leaning_holds(web, one, other, thing)", "flocks(web)"),
    "spare": ("web_less(web, numbers)", "judge_spare(web, number)", "spare_holds(web, number, thing)", "spare_ties(web)",
              "keeping_ties(web)", "spare_pairs(web)", "judge_lean(web)", "lean_holds(web, thing)", "thinning(web)",
              "is_thinning(web, thing)"),
    "turnings": ("rings_between(web, one, other)", "are_neighbours(web, one, other)", "pairings_of_both(web, one, other)",
                 "turning_rings(web, pairing, most)", "turned(web, pairing, ring)", "turn_row(web, pairing, ring)",
                 "freedom(web)"),
    "ways": ("steps_between(web, one, other, most)", "judge_within(web, one, other, most, steps)",
             "within_holds(web, one, other, most, steps, thing)", "herds(web, most)", "judge_herd(web, one, other, most)",
             "herd_holds(web, one, other, most, thing)", "fast_ties(web, pairing, most)",
             "judge_fast(web, pairing, number, most)", "fast_holds(web, pairing, number, most, thing)"),
    "workshops": ("Workshop(web, strict=False)", "read_workshop(text)"),
    "covered": ("is_covered(thing)", "judge_covered(web)", "covered_holds(web, thing)", "covered_parts(web)"),
}


METHODS = ("base(self)", "showing(self)", "shown(self)", "held(self)", "held_shown(self)", "is_strict(self)", "deeds(self)",
           "change(self, change)", "deal(self, changes)", "would(self, changes)", "undo(self)", "redo(self)", "copied(self)",
           "__init__(self, web, strict=False)", "__eq__(self, other)", "__str__(self)")


class TestInterface(unittest.TestCase):
    def test_signatures(self):
        for file, calls in INTERFACE.items():
            module = importlib.import_module("oncecrossed." + file)
            for call in calls:
                name = call.split("(")[0]
                found = vars(module)[name]
                self.assertEqual(name + str(inspect.signature(found)), call)
                self.assertEqual(found.__module__, "oncecrossed." + file, call)

    def test_methods(self):
        shop = importlib.import_module("oncecrossed.workshops").Workshop
        for call in METHODS:
            name = call.split("(")[0]
            self.assertEqual(name + str(inspect.signature(vars(shop)[name])), call)
        self.assertEqual(shop.__bases__, (object,))


if __name__ == "__main__":
    unittest.main()
