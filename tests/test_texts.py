"""web_text, read_web and view_text."""

import random
import re
import unittest

from tests.helpers import (Case, bare, cube, every_web, full, line, petersen, ring, some_webs,
                           star, wrong_values)
from viewkin.errors import BadText, BadTies, TooGreat
from viewkin.texts import read_web, view_text, web_text
from viewkin.views import view
from viewkin.webs import Web, beside

NUMBER = "(0|[1-9][0-9]{0,3})"
TIE = f"{NUMBER}-{NUMBER}"
TEXT = re.compile(f"[0-9]( [0-9])*\n({TIE}( {TIE})*)?")
ENDS = ["", "0\n", "\n", "-0", "0", "0-0"]


def goes_on(front):
    """Whether some text of a web begins so."""
    return any(TEXT.fullmatch(front + end) for end in ENDS)


def fault_by_words(text):
    """The number that BadText tells of a string, or None if it is right."""
    if TEXT.fullmatch(text):
        return None
    low, high = 0, len(text)
    while low < high:
        middle = (low + high + 1) // 2
        if goes_on(text[:middle]):
            low = middle
        else:
            high = middle - 1
    return low


class WebText(Case):

    def test_by_hand(self):
        for web, text in ((bare([0]), "0\n"), (bare([3, 9, 0]), "3 9 0\n"), (line(2, [1, 2]), "1 2\n0-1"),
                          (ring(3), "0 0 0\n0-1 0-2 1-2"), (star(3), "0 0 0 0\n0-1 0-2 0-3"),
                          (Web([5] * 12, [(0, 11), (3, 10), (9, 10)]), "5 5 5 5 5 5 5 5 5 5 5 5\n0-11 3-10 9-10")):
            self.assertEqual(web_text(web), text)
            self.assertEqual(read_web(text), web)

    def test_there_and_back(self):
        webs = [web for many in (1, 2, 3) for web in every_web(many, 2)] + list(some_webs(71, 200, 30, 10))
        for web in webs + [petersen(), cube(), full(30), beside(ring(5), bare([7]))]:
            text = web_text(web)
            self.assertTrue(TEXT.fullmatch(text))
            again = read_web(text)
            self.assertEqual(again, web)
            self.assertEqual([again.neighbours(place) for place in range(len(web))],
                             [web.neighbours(place) for place in range(len(web))])

    def test_great_webs(self):
        for web in (line(2000), star(1999), bare([9] * 2000), full(245), Web([0] * 2000, [(1998, 1999)])):
            self.assertEqual(read_web(web_text(web)), web)
        self.assertIn(" 998-999 999-1000 1000-1001 ", web_text(line(2000)))
        self.assertTrue(web_text(line(2000)).endswith(" 1998-1999"))


class ReadWeb(Case):

    def told(self, text):
        """read_web tells the fault that the words tell; whether there is one."""
        fault = fault_by_words(text)
        if fault is not None:
            self.refused(BadText, fault, read_web, text)
            return True
        try:
            web = read_web(text)
        except (BadTies, TooGreat):
            return False
        self.assertEqual(web_text(web), text)
        return False

    def test_by_hand(self):
        for text, fault in (("", 0), ("0", 1), ("\n", 0), (" ", 0), ("a", 0), ("00\n", 1), ("0 \n", 2), ("0 ", 2),
                            ("0  1\n", 2), (" 0\n", 0), ("10\n", 1), ("0 1", 3), ("0,1\n", 1), ("-1\n", 0),
                            ("0\n\n", 2), ("0\n ", 2), ("0\n0", 3), ("0\n0-", 4), ("0\n-1", 2), ("0\n0-1 ", 6),
                            ("0\n0-1\n", 5), ("0\n0-1  0-2", 6), ("0\n01-2", 3), ("0\n0-01", 5), ("0\n00-1", 3),
                            ("0\n0--1", 4), ("0\n0 1", 3), ("0\n0-1-2", 5), ("0\n12345-1", 6), ("0\n1-12345", 8),
                            ("0\n1-1234 ", 9), ("0\n+1-2", 2), ("0\n1- 2", 4), ("0\n1-2,", 5), ("0\r\n0-1", 1),
                            ("0\n0_1-2", 3), ("0\n0-1_0", 5), ("0\n1_0-2", 3), ("x\n0-1", 0), ("0 1\n0-1x", 7)):
            with self.subTest(text=text):
                self.assertEqual(fault_by_words(text), fault)
                self.refused(BadText, fault, read_web, text)

    def test_figures_of_other_scripts(self):
        for sign in ("\u0661", "\u00b2", "\uff11", "\u00a0", "\u2460", "\U0001d7d8"):
            self.refused(BadText, 0, read_web, sign + "\n")
            self.refused(BadText, 1, read_web, "0" + sign + "0\n")
            self.refused(BadText, 2, read_web, "0 " + sign + "\n")
            self.refused(BadText, 4, read_web, "0 0\n" + sign + "-1")
            self.refused(BadText, 6, read_web, "0 0\n0-" + sign)
            self.refused(BadText, 7, read_web, "0 0\n0-1" + sign)
            self.refused(BadText, 5, read_web, "0 0\n1" + sign + "-2")

    def test_any_value_that_is_no_string(self):
        for value in wrong_values() + [b"0\n", ["0\n"], ("0\n",), 0, bare([0]), bytearray(b"0\n"), {"0\n": 1}]:
            if not isinstance(value, str):
                with self.subTest(value=value):
                    self.refused(BadText, None, read_web, value)

    def test_texts_cut_off(self):
        for web in (bare([4]), petersen(), Web([0] * 1200, [(0, 9), (9, 10), (99, 1000), (1000, 1001), (1001, 1199)])):
            text = web_text(web)
            for at in range(len(text)):
                self.told(text[:at])

    def test_one_sign_changed_left_out_or_put_in(self):
        text = web_text(Web([3, 0, 1] + [2] * 120, [(0, 1), (0, 10), (2, 100), (9, 11), (100, 101), (110, 120)]))
        wrong = 0
        for short in (text, "0 1 2\n0-1 1-2", "0 0\n0-1", "7\n", "1 2\n1-10 10-100 100-1000 1000-9999"):
            for at in range(len(short) + 1):
                for sign in "0159 -\nax,+":
                    wrong += self.told(short[:at] + sign + short[at:])
                    wrong += self.told(short[:at] + sign + short[at + 1:])
                wrong += self.told(short[:at] + short[at + 1:])
        self.assertGreater(wrong, 1000)

    def test_texts_that_look_like_chance(self):
        dice = random.Random(72)
        for turn in range(6000):
            text = "".join(dice.choice("0123 -\n0 1-") for sign in range(dice.randint(0, 12)))
            self.told(text)
            self.told("0 1 0\n" + text)
            self.told("0 1 0\n0-1 " + text)

    def test_numbers_of_four_and_five_figures(self):
        web = Web([0] * 2000, [(999, 1000), (1000, 1999)])
        self.assertEqual(read_web(web_text(web)), web)
        front = "0 0\n"
        self.refused(BadTies, 0, read_web, front + "0-9999")
        self.refused(BadTies, 0, read_web, front + "9999-9999")
        self.refused(BadText, 8, read_web, front + "10000-1")
        self.refused(BadText, 10, read_web, front + "1-10000")
        self.refused(BadText, 10, read_web, front + "0-99990")
        self.refused(BadText, 12, read_web, front + "0-1 123456")

    def test_the_errors_of_web_behind_a_right_reading(self):
        self.refused(TooGreat, 2000, read_web, "0" + " 0" * 2000 + "\n")
        self.refused(TooGreat, 2000, read_web, "0" + " 0" * 2000 + "\n5-5")
        self.assertEqual(len(read_web("0" + " 0" * 1999 + "\n")), 2000)
        self.refused(TooGreat, 30000, read_web, "0 0\n0-1" + " 0-1" * 30000)
        self.refused(BadTies, 1, read_web, "0 0\n0-1" + " 0-1" * 29999)
        for text, place in (("0\n0-0", 0), ("0 0\n1-0", 0), ("0 0\n0-1 0-1", 1), ("0 0 0\n0-2 0-1", 1),
                            ("0 0\n0-1 0-2", 1), ("0 0\n0-2", 0), ("0 0 0\n1-2 0-1", 1)):
            self.refused(BadTies, place, read_web, text)

    def test_the_text_ahead_of_the_web(self):
        self.refused(BadText, 4002, read_web, "0" + " 0" * 2000 + "\nx")
        self.refused(BadText, 9, read_web, "0 0\n1-0 0")
        self.refused(BadText, 7, read_web, "0 0\n5-5x")

    def test_long_texts(self):
        self.refused(BadText, 1, read_web, "0" * 100000)
        self.refused(BadText, 100000, read_web, "0 " * 50000)
        self.refused(BadText, 6, read_web, "0\n" + "9" * 100000)
        text = web_text(full(245))
        self.refused(BadText, len(text) + 1, read_web, text + " ")
        self.refused(BadText, len(text), read_web, text + "\n")


class ViewText(unittest.TestCase):

    def test_by_hand(self):
        for value, text in (((0, ()), "0"), ((7, ((3, ()),)), "7(3)"),
                            ((0, ((1, ()), (1, ((0, ()), (2, ()))))), "0(1 1(0 2))"),
                            ((2, ((3, ((1, ()), (2, ()))),)), "2(3(1 2))"),
                            ((0, ((0, ((0, ((0, ((9, ()),)),)),)), (5, ()))), "0(0(0(0(9))) 5)"),
                            ((1, ((2, ()), (3, ((4, ()),)), (5, ()))), "1(2 3(4) 5)")):
            self.assertEqual(view_text(value), text)

    def test_views_of_webs(self):
        web = line(3, [2, 3, 1])
        self.assertEqual([view_text(view(web, 0, depth)) for depth in range(5)],
                         ["2", "2(3)", "2(3(1 2))", "2(3(1(3) 2(3)))", "2(3(1(3(1 2)) 2(3(1 2))))"])
        self.assertEqual(view_text(view(bare([8]), 0, 4)), "8")
        self.assertEqual(view_text(view(star(3), 0, 1)), "0(0 0 0)")
        self.assertEqual(view_text(view(ring(3), 0, 2)), "0(0(0 0) 0(0 0))")

    def test_there_and_back(self):
        for web in some_webs(73, 60, 8, 10):
            for depth in range(5):
                seen = view(web, 0, depth)
                text = view_text(seen)
                self.assertEqual(read_branch(text), (seen, ""))
                self.assertRegex(text, r"\A[0-9 ()]*\Z")
                self.assertNotIn("()", text)

    def test_to_depth_20(self):
        self.assertEqual(view_text(view(line(2, [4, 5]), 0, 20)), "4(5(" * 10 + "4" + "))" * 10)
        value = (1, ())
        for step in range(20):
            value = (2, ((3, ()), value))
        self.assertEqual(view_text(value), "2(3 " * 20 + "1" + ")" * 20)

    def test_most_colours(self):
        text = view_text(view(star(1999), 0, 2))
        self.assertEqual(text, "0(" + " ".join(["0(0)"] * 1999) + ")")


def read_branch(text):
    """The view at the front of a text, and what is behind it."""
    colour, rest, near = int(text[0]), text[1:], []
    if rest[:1] == "(":
        while rest[:1] != ")":
            branch, rest = read_branch(rest[1:])
            near.append(branch)
        rest = rest[1:]
    return (colour, tuple(near)), rest


if __name__ == "__main__":
    unittest.main()
