"""Webs, lots, cuts and ties [1.1] [1.2]."""

import unittest

from helpers import (BARE, FULL, NOT_WEBS, ODD_VALUES, ONE, SQUARE, STAR, TRIANGLE, TWIN, WEBS, all_lots, big_web,
                     random_webs)
from oncecrossed.errors import BadLot, BadTie, BadWeb
from oncecrossed.webs import cut_of, ends_of, is_lot, is_web, plain_web, rest_of, within, without


def is_plain_lot(web, thing):
    """Whether any value is one of the lots of a web, bools and lists not taken for their likes."""
    return repr(thing) in [repr(lot) for lot in all_lots(web)]


class TestWebs(unittest.TestCase):
    def raises(self, error, value, call, *arguments):
        with self.assertRaises(error) as caught:
            call(*arguments)
        self.assertIs(list(vars(caught.exception).values())[0], value)

    def test_webs(self):
        for web in WEBS:
            self.assertIs(is_web(web), True, web)
        self.assertIs(is_web(thing=(12, ((10, 11),) * 40)), True)
        self.assertIs(is_web((12, ((10, 11),) * 900)), True)

    def test_no_webs(self):
        for value in NOT_WEBS:
            self.assertIs(is_web(value), False, value)

    def test_all_numbers_of_places(self):
        for places in range(-2, 20):
            self.assertIs(is_web((places, ())), 1 <= places <= 12, places)

    def test_order_of_ties(self):
        ties = ((0, 1), (0, 2), (1, 2))
        for one in ties:
            for other in ties:
                self.assertIs(is_web((3, (one, other))), one <= other)

    def test_plain_web(self):
        self.assertEqual(plain_web(TWIN), (2, ((0, 1),)))
        self.assertEqual(plain_web((4, ((0, 1), (0, 1), (0, 3), (2, 3), (2, 3), (2, 3)))), (4, ((0, 1), (0, 3), (2, 3))))
        self.assertEqual(plain_web(web=FULL), FULL)
        self.assertEqual(plain_web(ONE), ONE)
        for web in random_webs(1, 50, 6, 12):
            self.assertEqual(plain_web(web), (web[0], tuple(sorted(dict.fromkeys(web[1])))))

    def test_lots(self):
        for web in (ONE, TWIN, TRIANGLE, FULL):
            for lot in all_lots(web):
                self.assertIs(is_lot(web, lot), True, lot)
            for value in ODD_VALUES:
                self.assertIs(is_lot(web, value), is_plain_lot(web, value), value)
        self.assertIs(is_lot(thing=(0, 11), web=BARE), True)
        self.assertIs(is_lot(BARE, tuple(range(12))), True)
        for value in ((1, 0), (0, 0), [0], (True,), (0, True), (4,), (-1,), ("0",), (0, None), None, 0):
            self.assertIs(is_lot(FULL, value), False, value)

    def test_rest(self):
        for web in (ONE, TWIN, FULL, BARE):
            for lot in all_lots(web):
                rest = rest_of(web, lot)
                self.assertTrue(is_lot(web, rest))
                self.assertEqual(sorted(lot + rest), list(range(web[0])))
        self.assertEqual(rest_of(lot=(1, 3), web=FULL), (0, 2))

    def test_cut(self):
        self.assertEqual(cut_of(web=FULL, lot=(0, 1)), (1, 2, 3, 4))
        self.assertEqual(cut_of(STAR, (0,)), (0, 1, 2))
        self.assertEqual(cut_of(TWIN, (1,)), (0, 1))
        for web in random_webs(2, 40, 5, 10):
            for lot in all_lots(web):
                wanted = [at for at, tie in enumerate(web[1]) if len(set(tie) & set(lot)) == 1]
                self.assertEqual(cut_of(web, lot), tuple(wanted))
            self.assertEqual((cut_of(web, ()), cut_of(web, tuple(range(web[0])))), ((), ()))

    def test_within_and_without(self):
        self.assertEqual(within(FULL, lot=(0, 2, 3)), TRIANGLE)
        self.assertEqual(without(web=FULL, lot=(1, 2)), (2, ((0, 1),)))
        self.assertEqual(within(SQUARE, (0, 2)), (2, ()))
        self.assertEqual(within((5, ((1, 4), (1, 4), (2, 3))), (1, 2, 4)), (3, ((0, 2), (0, 2))))
        for web in WEBS:
            everything = tuple(range(web[0]))
            self.assertEqual(within(web, everything), web)
            self.assertEqual(without(web, ()), web)
        for web in random_webs(3, 40, 5, 10):
            for lot in all_lots(web):
                if lot:
                    ties = tuple([(lot.index(a), lot.index(b)) for a, b in web[1] if a in lot and b in lot])
                    self.assertEqual(within(web, lot), (len(lot), ties))
                    self.assertEqual(without(web, rest_of(web, lot)), (len(lot), ties))

    def test_lots_that_leave_no_place(self):
        for web in WEBS:
            everything = tuple(range(web[0]))
            self.raises(BadLot, everything, without, web, everything)
            with self.assertRaises(BadLot) as caught:
                within(web, ())
            self.assertEqual(caught.exception.thing, ())

    def test_ends(self):
        self.assertEqual(ends_of(number=5, web=FULL), (2, 3))
        self.assertEqual([ends_of(big_web(), at) for at in range(40)], list(big_web()[1]))
        for value in (-1, 6, 10 ** 99, True, False, None, "0", (), (0,), [0], {}):
            self.raises(BadTie, value, ends_of, FULL, value)
        self.raises(BadTie, 0, ends_of, BARE, 0)

    def test_bad_webs(self):
        for value in NOT_WEBS:
            self.raises(BadWeb, value, plain_web, value)
            self.raises(BadWeb, value, ends_of, value, 0)
            for call in (is_lot, rest_of, cut_of, within, without):
                self.raises(BadWeb, value, call, value, (0,))

    def test_bad_lots(self):
        for call in (rest_of, cut_of, within, without):
            for value in ODD_VALUES:
                if not is_plain_lot(FULL, value):
                    self.raises(BadLot, value, call, FULL, value)

    def test_several_wrong_at_once(self):
        for call in (is_lot, rest_of, cut_of, within, without, ends_of):
            self.raises(BadWeb, NOT_WEBS[-1], call, NOT_WEBS[-1], [None])


if __name__ == "__main__":
    unittest.main()
