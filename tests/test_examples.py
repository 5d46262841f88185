"""The examples of the document, as they stand there."""

import unittest

EXAMPLES = r"""
>>> from oncecrossed.webs import cut_of, is_web, plain_web, rest_of, within, without
>>> FULL = (4, ((0, 1), (0, 2), (0, 3), (1, 2), (1, 3), (2, 3)))
>>> [is_web(FULL), is_web((2, ((1, 0),))), plain_web((2, ((0, 1), (0, 1)))), rest_of(FULL, (1, 3)), cut_of(FULL, (0, 1)), within(FULL, (0, 2, 3)), without(FULL, (1, 2))]
[True, False, (2, ((0, 1),)), (0, 2), (1, 2, 3, 4), (3, ((0, 1), (0, 2), (1, 2))), (2, ((0, 1),))]
>>> from oncecrossed.webs import is_ring, judge_sides, parts_of, sides_hold
>>> SQUARE = (4, ((0, 1), (0, 3), (1, 2), (2, 3)))
>>> TRIANGLE = (3, ((0, 1), (0, 2), (1, 2)))
>>> [judge_sides(SQUARE)[0], sides_hold(SQUARE, ('sides', (0, 2))), sides_hold(TRIANGLE, ('ring', (0, 2, 1))), judge_sides(TRIANGLE)[0], is_ring(SQUARE, (0, 2, 3, 1)), is_ring(SQUARE, (0, 1, 2, 3)), is_ring((2, ((0, 1), (0, 1))), (0, 1)), parts_of((3, ((0, 2),)))]
['sides', True, True, 'ring', True, False, True, ((0, 2), (1,))]
>>> from oncecrossed.renamings import led, plain_renaming, renaming_between
>>> SQUARE = (4, ((0, 1), (0, 3), (1, 2), (2, 3)))
>>> FULL = (4, ((0, 1), (0, 2), (0, 3), (1, 2), (1, 3), (2, 3)))
>>> [led(SQUARE, (1, 0, 2, 3)), led(SQUARE, renaming_between(SQUARE, led(SQUARE, (1, 0, 2, 3)))) == led(SQUARE, (1, 0, 2, 3)), renaming_between(SQUARE, FULL), renaming_between((2, ((0, 1),)), (2, ((0, 1), (0, 1)))), plain_renaming((2, ((0, 1),)), (2, ((0, 1), (0, 1)))) in ((0, 1), (1, 0))]
[(4, ((0, 1), (0, 2), (1, 3), (2, 3))), True, None, None, True]
>>> from oncecrossed.texts import read_web, text_of
>>> [text_of((3, ((0, 2), (1, 2)))), read_web('places 2\n0 1\n0 1'), read_web('places 1')]
['places 3\n0 2\n1 2', (2, ((0, 1), (0, 1))), (1, ())]
>>> from oncecrossed.texts import read_web
>>> read_web('places 4\n0 2\n0 1')
raises BadText(at=3)
>>> from oncecrossed.texts import read_web
>>> read_web('places 4\n0 4')
raises BadText(at=2)
>>> from oncecrossed.pairings import how_many, is_pairing, odd_rests, pairing_holds, pairings
>>> FULL = (4, ((0, 1), (0, 2), (0, 3), (1, 2), (1, 3), (2, 3)))
>>> STAR = (4, ((0, 1), (0, 2), (0, 3)))
>>> [pairings(FULL), how_many((2, ((0, 1), (0, 1)))), is_pairing(FULL, (0, 1)), is_pairing(FULL, (5, 0)), odd_rests(STAR, (0,)), odd_rests(STAR, ()), pairing_holds(STAR, ('lot', (0,))), pairing_holds(FULL, ('pairing', (1, 4)))]
[((0, 5), (1, 4), (2, 3)), 2, False, False, 3, 0, True, True]
>>> from oncecrossed.pairings import judge_pairing
>>> [judge_pairing((4, ((0, 1), (0, 2), (0, 3)))), judge_pairing((2, ((0, 1),)))]
[('lot', (0,)), ('pairing', (0,))]
>>> from oncecrossed.tiesin import judge_tie, let_ties, needed_ties, tie_holds
>>> LINE = (4, ((0, 1), (1, 2), (2, 3)))
>>> [let_ties(LINE), needed_ties(LINE), judge_tie(LINE, 0), judge_tie(LINE, 1)[0], tie_holds(LINE, 1, ('lot', (1, 2))), tie_holds(LINE, 1, ('lot', (0, 2))), let_ties((3, ((0, 1), (1, 2))))]
[(0, 2), (0, 2), ('pairing', (0, 2)), 'lot', True, False, ()]
>>> from oncecrossed.covered import covered_holds, covered_parts, is_covered, judge_covered
>>> LINE = (4, ((0, 1), (1, 2), (2, 3)))
>>> SQUARE = (4, ((0, 1), (0, 3), (1, 2), (2, 3)))
>>> [is_covered(SQUARE), is_covered(LINE), is_covered((1, ())), judge_covered(SQUARE), covered_holds(LINE, ('tie', 1, (1, 2))), covered_holds(SQUARE, ('covered', ((0, 3), (1, 2), (0, 3), (0, 3)))), covered_parts(LINE)]
[True, False, False, ('covered', ((0, 3), (1, 2), (1, 2), (0, 3))), True, False, (((0, 1), (2, ((0, 1),))), ((2, 3), (2, ((0, 1),))))]
>>> from oncecrossed.laid import laid
>>> FULL = (4, ((0, 1), (0, 2), (0, 3), (1, 2), (1, 3), (2, 3)))
>>> [laid(FULL, (2, 3)), laid(FULL, (0, 2, 3))]
[((3, ((0, 1), (0, 2), (0, 2), (1, 2), (1, 2))), (0, 1, 2, 3, 4)), ((2, ((0, 1), (0, 1), (0, 1))), (0, 3, 4))]
>>> from oncecrossed.laid import is_tight, joined_pairing, loose_pairing, sides_of, tight_lots
>>> HEXAGON = (6, ((0, 1), (0, 5), (1, 2), (2, 3), (3, 4), (4, 5)))
>>> SQUARE = (4, ((0, 1), (0, 3), (1, 2), (2, 3)))
>>> [is_tight(HEXAGON, (0, 1, 2)), is_tight(HEXAGON, (3,)), is_tight(HEXAGON, (0, 1)), tight_lots(HEXAGON), sides_of(HEXAGON, (0, 1, 2)) == ((SQUARE, (0, 1, 2, 3)), (SQUARE, (4, 3, 5, 1))), joined_pairing(HEXAGON, (0, 1, 2), (0, 3), (1, 2)), joined_pairing(HEXAGON, (0, 1, 2), (0, 3), (0, 3)), loose_pairing(HEXAGON, (0, 2, 4)) in ((0, 3, 5), (1, 2, 4)), loose_pairing(HEXAGON, (0, 1, 2))]
[True, True, False, ((0, 1, 2), (0, 1, 5), (0, 4, 5)), True, (0, 3, 5), None, True, None]
>>> from oncecrossed.laid import is_tight, loose_pairing, tight_lots
>>> PRISM = (6, ((0, 1), (0, 2), (0, 3), (1, 2), (1, 4), (2, 5), (3, 4), (3, 5), (4, 5)))
>>> [loose_pairing(PRISM, (0, 1, 2)), is_tight(PRISM, (0, 1, 2)), tight_lots(PRISM)]
[(2, 4, 5), False, ()]
>>> from oncecrossed.barriers import akin_holds, barriers, classes, is_barrier, judge_akin
>>> SQUARE = (4, ((0, 1), (0, 3), (1, 2), (2, 3)))
>>> FULL = (4, ((0, 1), (0, 2), (0, 3), (1, 2), (1, 3), (2, 3)))
>>> [classes(SQUARE), barriers(SQUARE), classes(FULL), is_barrier(SQUARE, (0, 1)), judge_akin(SQUARE, 0, 2), judge_akin(FULL, 0, 3), judge_akin(SQUARE, 0, 1), akin_holds(SQUARE, 1, 3, ('akin', (1, 3)))]
[((0, 2), (1, 3)), ((0,), (0, 2), (1,), (1, 3), (2,), (3,)), ((0,), (1,), (2,), (3,)), False, ('akin', (0, 2)), ('apart', (3,)), ('apart', (3,)), True]
>>> from oncecrossed.bricks import is_brace, is_brick, is_threefold, judge_piece, piece_holds, told_lot
>>> FULL = (4, ((0, 1), (0, 2), (0, 3), (1, 2), (1, 3), (2, 3)))
>>> HEXAGON = (6, ((0, 1), (0, 5), (1, 2), (2, 3), (3, 4), (4, 5)))
>>> LENS = (6, ((0, 1), (0, 2), (0, 3), (0, 4), (0, 5), (1, 2), (1, 3), (1, 4), (1, 5), (2, 3), (4, 5)))
>>> [is_brick(FULL), is_threefold(FULL), is_brace(HEXAGON), judge_piece((2, ((0, 1),))), judge_piece(FULL), told_lot(HEXAGON, ('barrier', (0, 2), (3, 4, 5))), piece_holds(LENS, ('two', 0, 1, (2, 3))), told_lot(LENS, ('two', 0, 1, (2, 3)))]
[True, True, False, ('brace', ()), ('brick', ((5,), (4,), (3,), (2,), (1,), (0,))), (3, 4, 5), True, (0, 2, 3)]
>>> from oncecrossed.takings import is_taking, leaves, lots_of, piece_numbers
>>> HEXAGON = (6, ((0, 1), (0, 5), (1, 2), (2, 3), (3, 4), (4, 5)))
>>> LENS = (6, ((0, 1), (0, 2), (0, 3), (0, 4), (0, 5), (1, 2), (1, 3), (1, 4), (1, 5), (2, 3), (4, 5)))
>>> tree = ('cut', (0, 2, 3), ('piece',), ('piece',))
>>> [is_taking(LENS, tree), leaves(LENS, tree)[0], lots_of(LENS, tree), piece_numbers(LENS), piece_numbers(HEXAGON)]
[True, ((4, ((0, 1), (0, 2), (0, 3), (0, 3), (0, 3), (1, 2), (1, 3), (2, 3))), (1, 2, 0, 3, 4, 9, 5, 6)), ((0, 2, 3),), (2, 0, 0), (0, 0, 2)]
>>> from oncecrossed.lists import is_petersen, judge_list, list_holds, petersen
>>> FULL = (4, ((0, 1), (0, 2), (0, 3), (1, 2), (1, 3), (2, 3)))
>>> SQUARE = (4, ((0, 1), (0, 3), (1, 2), (2, 3)))
>>> [petersen(), is_petersen(petersen()), judge_list((FULL, SQUARE), (SQUARE,)), judge_list((), ()), list_holds((FULL, SQUARE), (SQUARE, FULL), ('one', ((1, (0, 1, 2, 3)), (0, (1, 2, 3, 0)))))]
[(10, ((0, 1), (0, 4), (0, 5), (1, 2), (1, 6), (2, 3), (2, 7), (3, 4), (3, 8), (4, 9), (5, 7), (5, 8), (6, 8), (6, 9), (7, 9))), True, None, ('one', ()), True]
>>> from oncecrossed.lists import petersen
>>> from oncecrossed.spans import are_independent, judge_span, row_of, span_holds, span_number, total
>>> SQUARE = (4, ((0, 1), (0, 3), (1, 2), (2, 3)))
>>> LENS = (6, ((0, 1), (0, 2), (0, 3), (0, 4), (0, 5), (1, 2), (1, 3), (1, 4), (1, 5), (2, 3), (4, 5)))
>>> [row_of(SQUARE, (0, 3)), total(SQUARE, (((0, 3), 2), ((1, 2), -1))), total(SQUARE, ()), judge_span(SQUARE, (1, 2, 2, 1))[0], span_holds(SQUARE, (1, 0, 0, 0), ('cuts', (0,), (2,))), are_independent(SQUARE, ((0, 3), (1, 2))), span_number(LENS), span_number(petersen())]
[(1, 0, 0, 1), (2, -1, -1, 2), (0, 0, 0, 0), 'sums', True, True, 5, 6]
>>> from oncecrossed.lists import petersen
>>> from oncecrossed.wholesums import five_lots, five_rings, judge_whole, whole_holds
>>> SQUARE = (4, ((0, 1), (0, 3), (1, 2), (2, 3)))
>>> lots = tuple([(place,) for place in range(10)])
>>> [five_lots(petersen()) == (lots,), len(five_rings(petersen(), lots)), judge_whole(petersen(), (1,) * 15)[0], whole_holds(petersen(), (1,) * 15, ('five', lots, (0, 1, 2, 3, 4))), judge_whole(petersen(), (2,) * 15)[0], five_lots(SQUARE)]
[True, 12, 'five', True, 'whole', ()]
>>> from oncecrossed.lists import petersen
>>> from oncecrossed.mixes import judge_even, mix_holds, parted
>>> FULL = (4, ((0, 1), (0, 2), (0, 3), (1, 2), (1, 3), (2, 3)))
>>> TWO = (6, ((0, 1), (0, 2), (1, 2), (2, 3), (3, 4), (3, 5), (4, 5)))
>>> [mix_holds(FULL, (2, 1, 0, 0, 1, 2), ('mix', 1, (((0, 5), 2), ((1, 4), 1)))), mix_holds(TWO, (1, 1, 1, 0, 1, 1, 1), ('odd', (0, 1, 2))), mix_holds((3, ()), (), ('mix', 7, ())), judge_even(petersen())[0], parted(petersen()), parted(FULL), parted((3, ()))]
[True, True, True, 'mix', None, ((0, 5), (1, 4), (2, 3)), ()]
>>> from oncecrossed.halves import halves, halves_hold, ringed_half, row_of_half
>>> FULL = (4, ((0, 1), (0, 2), (0, 3), (1, 2), (1, 3), (2, 3)))
>>> TWO = (6, ((0, 1), (0, 2), (1, 2), (2, 3), (3, 4), (3, 5), (4, 5)))
>>> [halves(FULL), ringed_half(FULL), ringed_half(TWO), row_of_half(TWO, ringed_half(TWO)), halves_hold(TWO, (1, 1, 1, 0, 1, 1, 1), ('halves', 1, ((ringed_half(TWO), 1),)))]
[(((), (0, 5)), ((), (1, 4)), ((), (2, 3))), None, (((0, 2, 1), (4, 6, 5)), ()), (1, 1, 1, 0, 1, 1, 1), True]
>>> from oncecrossed.critical import critical_holds, is_critical, judge_critical, leaving, shrinking_ring
>>> TRIANGLE = (3, ((0, 1), (0, 2), (1, 2)))
>>> FORK = (3, ((0, 1), (0, 2)))
>>> BOW = (5, ((0, 1), (0, 2), (0, 3), (0, 4), (1, 2), (3, 4)))
>>> [is_critical(TRIANGLE), leaving(TRIANGLE, 1), judge_critical(FORK), critical_holds(FORK, ('lot', ())), critical_holds(BOW, ('ears', ((0, 4, 1), (2, 5, 3)))), judge_critical((2, ((0, 1),))), shrinking_ring((1, ()))]
[True, (1,), ('lot', (0,)), False, True, ('even',), None]
>>> from oncecrossed.ears import ears_hold, is_row, judge_ears, least_doubles, pairings_along
>>> FULL = (4, ((0, 1), (0, 2), (0, 3), (1, 2), (1, 3), (2, 3)))
>>> SQUARE = (4, ((0, 1), (0, 3), (1, 2), (2, 3)))
>>> row = (0, (((1, 5, 4),), ((2,), (3,))))
>>> [least_doubles(SQUARE), least_doubles(FULL), is_row(FULL, row), is_row(FULL, (0, (((1, 5, 4),), ((2,),), ((3,),)))), ears_hold(FULL, 1, ('ears', row)), judge_ears(FULL, 0), pairings_along(FULL, row)]
[0, 1, True, False, True, ('pieces', ('piece',)), ((0, 5), (1, 4), (2, 3))]
>>> from oncecrossed.leaning import flocks, judge_leaning, leaning_holds
>>> FULL = (4, ((0, 1), (0, 2), (0, 3), (1, 2), (1, 3), (2, 3)))
>>> MORE = (4, ((0, 1), (0, 1), (0, 2), (0, 3), (1, 2), (1, 3), (2, 3)))
>>> [flocks(FULL), judge_leaning(FULL, 0, 1), leaning_holds(FULL, 0, 5, ('leans', (0, 1))), flocks(MORE), judge_leaning(MORE, 6, 0)]
[((0, 5), (1, 4), (2, 3)), ('free', (0, 5)), True, ((0,), (1,), (2, 5), (3, 4), (6,)), ('free', (1, 6))]
>>> from oncecrossed.spare import judge_spare, keeping_ties, lean_holds, spare_holds, spare_pairs, spare_ties, thinning
>>> FULL = (4, ((0, 1), (0, 2), (0, 3), (1, 2), (1, 3), (2, 3)))
>>> SQUARE = (4, ((0, 1), (0, 3), (1, 2), (2, 3)))
>>> MORE = (4, ((0, 1), (0, 1), (0, 2), (0, 3), (1, 2), (1, 3), (2, 3)))
>>> [spare_ties(FULL), spare_pairs(FULL), spare_holds(FULL, 0, ('held', 5, (2, 3))), spare_ties(MORE), keeping_ties(MORE), spare_pairs(SQUARE), thinning(SQUARE), judge_spare((2, ((0, 1), (0, 1))), 0), judge_spare((2, ((0, 1),)), 0)]
[(), ((0, 5), (1, 4), (2, 3)), True, (0, 1), (0, 1), (), (), ('spare', ((1,),)), ('alone',)]
>>> from oncecrossed.turnings import freedom, pairings_of_both, rings_between, turn_row, turned, turning_rings
>>> FULL = (4, ((0, 1), (0, 2), (0, 3), (1, 2), (1, 3), (2, 3)))
>>> SQUARE = (4, ((0, 1), (0, 3), (1, 2), (2, 3)))
>>> TWINS = (4, ((0, 1), (0, 1), (2, 3), (2, 3)))
>>> [rings_between(SQUARE, (0, 3), (1, 2)), turned(SQUARE, (0, 3), (0, 1, 3, 2)), turn_row(SQUARE, (0, 3), (0, 1, 3, 2)), freedom(SQUARE), turning_rings(FULL, (0, 5), 4), freedom(FULL), pairings_of_both(TWINS, (0, 2), (1, 3)), rings_between(TWINS, (0, 2), (1, 3))]
[((0, 1, 3, 2),), (1, 2), (-1, 1, 1, -1), 1, ((0, 1, 5, 4), (0, 2, 5, 3)), 2, ((0, 2), (0, 3), (1, 2), (1, 3)), ((0, 1), (2, 3))]
>>> from oncecrossed.ways import fast_ties, herd_holds, herds, steps_between, within_holds
>>> FULL = (4, ((0, 1), (0, 2), (0, 3), (1, 2), (1, 3), (2, 3)))
>>> SQUARE = (4, ((0, 1), (0, 3), (1, 2), (2, 3)))
>>> TWINS = (4, ((0, 1), (0, 1), (2, 3), (2, 3)))
>>> [herds(FULL, 2), steps_between(TWINS, (0, 2), (1, 3), 2), within_holds(TWINS, (0, 2), (1, 3), 12, 1, ('heights', (0, 1, 1, 2))), steps_between(SQUARE, (0, 3), (1, 2), 2), herd_holds(SQUARE, (0, 3), (1, 2), 2, ('shut', ((0, 3),))), fast_ties(SQUARE, (0, 3), 2), fast_ties(SQUARE, (0, 3), 4)]
[(((0, 5),), ((1, 4),), ((2, 3),)), 2, True, None, True, (0, 1, 2, 3), ()]
>>> from oncecrossed.workshops import Workshop
>>> HEXAGON = (6, ((0, 1), (0, 5), (1, 2), (2, 3), (3, 4), (4, 5)))
>>> shop = Workshop(HEXAGON, strict=True)
>>> shop.deal((('lay', (0, 1, 2)), ('hold', (0, 3, 5))))
>>> [shop.showing(), shop.shown(), shop.held_shown(), str(shop), shop.would((('take', 0),))]
[(3, 4, 5, (0, 1, 2)), ((4, ((0, 1), (0, 3), (1, 2), (2, 3))), (4, 3, 5, 1)), (1, 2), 'strict workshop\nplaces 6\n0 1\n0 5\n1 2\n2 3\n3 4\n4 5\nshows 3 4 5 ( 0 1 2 )\nholds 0 3 5', False]
>>> from oncecrossed.workshops import Workshop
>>> HEXAGON = (6, ((0, 1), (0, 5), (1, 2), (2, 3), (3, 4), (4, 5)))
>>> shop = Workshop(HEXAGON, strict=True)
>>> shop.change(('lay', (0, 1, 2)))
>>> shop.change(('open', 3))
>>> shop.undo()
>>> [shop.showing(), shop.deeds(), shop.would((('take', 1), ('put', 0, 5))), shop.would((('take', 1),))]
[(3, 4, 5, (0, 1, 2)), 1, True, False]
>>> from oncecrossed.workshops import Workshop
>>> HEXAGON = (6, ((0, 1), (0, 5), (1, 2), (2, 3), (3, 4), (4, 5)))
>>> shop = Workshop(HEXAGON)
>>> shop.change(('take', 6))
raises BadTie(number=6)
"""


def told_by(error):
    """An error as the document writes it."""
    told = ", ".join([f"{name}={value!r}" for name, value in vars(error).items()])
    return f"raises {error.__class__.__name__}({told})"


def outcome(line, names):
    """What a line of an example returns or raises, as the document writes it."""
    try:
        return repr(eval(line, names))
    except Exception as error:
        return told_by(error)


class TestExamples(unittest.TestCase):
    def test_examples(self):
        names = {}
        lines = EXAMPLES.strip().split("\n")
        told = 0
        for line, behind in zip(lines, lines[1:] + [">>> "]):
            if line.startswith(">>> ") and behind.startswith(">>> "):
                # Imports and names, and changes of workshops, of which the document tells no result.
                exec(line[4:], names)
            elif line.startswith(">>> "):
                self.assertEqual(outcome(line[4:], names), behind, line)
                told += 1
        self.assertEqual(told, len([line for line in lines if not line.startswith(">>> ")]))
        self.assertEqual(told, 30)


if __name__ == "__main__":
    unittest.main()
