"""Texts of webs [1.6]."""

import random
import re
import unittest

from helpers import BARE, FULL, NOT_WEBS, ODD_VALUES, ONE, SQUARE, TWIN, WEBS, big_web, random_webs
from oncecrossed.errors import BadText, BadWeb
from oncecrossed.texts import read_web, text_of

NUMBER = "(0|[1-9][0-9]*)"


def slow_wrong_line(text):
    """The first line with which no text of a web begins as this one does, 0 if all lines are right."""
    lines = text.split("\n")
    head = re.fullmatch("places " + NUMBER, lines[0])
    if not head or not 1 <= int(head[1]) <= 12:
        return 1
    last = (0, 0)
    for at, line in enumerate(lines[1:], 2):
        found = re.fullmatch(NUMBER + " " + NUMBER, line)
        pair = (int(found[1]), int(found[2])) if found else (0, 0)
        if not pair[0] < pair[1] < int(head[1]) or pair < last:
            return at
        last = pair
    return 0


def spoiled(text, chance):
    """A text with a few lines or characters left out, doubled, exchanged or put in."""
    for _ in range(chance.randint(1, 2)):
        parts = text.split("\n") if chance.random() < 0.5 else list(text)
        glue = "" if parts == list(text) else "\n"
        at, to = chance.randrange(len(parts)), chance.randrange(len(parts))
        deed = chance.randrange(5)
        if deed == 0:
            parts[at:at + 1] = []
        elif deed == 1:
            parts.insert(at, parts[at])
        elif deed == 2:
            parts[at], parts[to] = parts[to], parts[at]
        elif deed == 3:
            parts.insert(at, chance.choice(["", " ", "\n", "0", "1", "-", "+", "_", "9", "places 2", "0 1", "1 0"]))
        else:
            parts.append(chance.choice(["", " ", "\n", "0 1", "10 11", "places 3"]))
        text = glue.join(parts) or " "
    return text


class TestTexts(unittest.TestCase):
    def wrong_at(self, text, at):
        with self.assertRaises(BadText) as caught:
            read_web(text)
        self.assertEqual(caught.exception.at, at, text)
        self.assertNotIsInstance(caught.exception.at, bool)

    def test_text(self):
        self.assertEqual(text_of((3, ((0, 2), (1, 2)))), "places 3\n0 2\n1 2")
        self.assertEqual(text_of(web=ONE), "places 1")
        self.assertEqual(text_of(TWIN), "places 2\n0 1\n0 1")
        self.assertEqual(text_of((12, ((2, 10), (10, 11)))), "places 12\n2 10\n10 11")
        self.assertEqual(text_of(big_web()).count("\n"), 40)

    def test_there_and_back(self):
        for web in list(WEBS) + random_webs(20, 100, 12, 40):
            self.assertEqual(read_web(text_of(web)), web)
        self.assertEqual(read_web(text="places 12"), BARE)

    def test_no_string(self):
        for value in ODD_VALUES + NOT_WEBS + WEBS:
            if not isinstance(value, str):
                self.wrong_at(value, 0)

    def test_first_line(self):
        for line in ("", "places", "places ", "places  2", " places 2", "places 2 ", "places 02", "places +2", "places -2",
                     "places 0", "places 13", "places 1_0", "Places 2", "places 2.0", "place 2", "2", "web", "0 1",
                     "places two", "places 2 2", "places\t2", "places 2\r", "places 10000000000000000000000000",
                     "x" * 2000):
            self.wrong_at(line, 1)
            self.wrong_at(line + "\n0 1", 1)
            self.wrong_at("\n" + line, 1)
        self.assertEqual([read_web(f"places {places}") for places in range(1, 13)], [(n, ()) for n in range(1, 13)])

    def test_lines_of_ties(self):
        for line in ("", " ", "0", "0 ", " 0 1", "0 1 ", "0  1", "0\t1", "0 1\r", "00 1", "0 01", "+0 1", "0 +1", "-0 1",
                     "-1 1", "0 -1", "0 4", "1 0", "0 0", "3 3", "2 4", "4 5", "0 1 2", "0,1", "(0, 1)", "a b", "0 1_0",
                     "0 True", "0 1.0", "places 4", "0 1" * 600, "0 99999999999999999999999999999"):
            self.wrong_at("places 4\n" + line, 2)
            self.wrong_at("places 4\n0 1\n" + line, 3)
            self.wrong_at("places 4\n" + line + "\n0 1", 2)

    def test_line_feeds_at_ends(self):
        self.wrong_at("\nplaces 2", 1)
        self.wrong_at("places 2\n", 2)
        self.wrong_at("places 2\n0 1\n", 3)
        self.wrong_at("places 2\n\n0 1", 2)
        self.wrong_at("\n", 1)

    def test_order_of_lines(self):
        self.wrong_at("places 4\n0 2\n0 1", 3)
        self.wrong_at("places 4\n0 1\n1 2\n0 3", 4)
        self.wrong_at("places 12\n0 10\n0 9", 3)
        self.assertEqual(read_web("places 12\n0 9\n0 10\n0 10"), (12, ((0, 9), (0, 10), (0, 10))))
        self.wrong_at("places 4\n0 1\n0 4\n0 9\n", 3)
        self.wrong_at("0 1\nplaces 4", 1)

    def test_one_place_has_no_ties(self):
        self.wrong_at("places 1\n0 1", 2)
        self.wrong_at("places 1\n0 0", 2)

    def test_lines_left_out(self):
        for web in (FULL, SQUARE):
            lines = text_of(web).split("\n")
            for at in range(1, len(lines)):
                left = read_web("\n".join(lines[:at] + lines[at + 1:]))
                self.assertEqual(left, (4, web[1][:at - 1] + web[1][at:]))

    def test_spoiled_texts(self):
        chance = random.Random(21)
        for web in random_webs(22, 3000, 12, 6):
            text = spoiled(text_of(web), chance)
            at = slow_wrong_line(text)
            if at:
                self.wrong_at(text, at)
            else:
                self.assertEqual(text_of(read_web(text)), text)

    def test_bad_webs(self):
        for value in NOT_WEBS:
            with self.assertRaises(BadWeb) as caught:
                text_of(value)
            self.assertIs(caught.exception.thing, value)


if __name__ == "__main__":
    unittest.main()
