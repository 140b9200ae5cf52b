"""Web: its making, what it refuses, and its methods."""

import decimal
import fractions
import random
import unittest

from tests.helpers import HUGE, Case, all_pairs, bare, full, line, star, wrong_values
from viewkin.errors import BadColours, BadPlace, BadTies, TooGreat
from viewkin.webs import MOST_PLACES, MOST_TIES, Web


def some_ties(many):
    """The first so many pairs of 2,000 places, in order."""
    ties = []
    low = 0
    while len(ties) < many:
        ties.extend((low, high) for high in range(low + 1, 2000))
        low += 1
    return ties[:many]


class Made(Case):

    def test_constants(self):
        self.assertEqual((MOST_PLACES, MOST_TIES), (2000, 30000))

    def test_lists_and_tuples(self):
        for colours in ([3, 0, 9], (3, 0, 9)):
            for ties in ([(0, 1), (0, 2)], ((0, 1), (0, 2))):
                web = Web(colours, ties)
                self.assertEqual(web.colours, (3, 0, 9))
                self.assertEqual(web.ties, ((0, 1), (0, 2)))
                self.assertIsInstance(web.colours, tuple)
                self.assertIsInstance(web.ties, tuple)

    def test_lists_changed_afterwards(self):
        colours = [1, 2, 3]
        ties = [(0, 1), (1, 2)]
        web = Web(colours, ties)
        colours[0] = 7
        colours.append(4)
        ties.pop()
        ties[0] = (0, 2)
        self.assertEqual(web.colours, (1, 2, 3))
        self.assertEqual(web.ties, ((0, 1), (1, 2)))
        self.assertEqual(len(web), 3)
        self.assertEqual([web.neighbours(place) for place in range(3)], [(1,), (0, 2), (1,)])

    def test_arguments_stay(self):
        colours = [5, 5, 1]
        ties = [(0, 2), (1, 2)]
        Web(colours, ties)
        self.assertEqual((colours, ties), ([5, 5, 1], [(0, 2), (1, 2)]))

    def test_all_colours(self):
        self.assertEqual(Web(range_list(10), []).colours, tuple(range(10)))

    def test_length(self):
        self.assertEqual(len(bare([0])), 1)
        self.assertEqual(len(line(17)), 17)
        self.assertEqual(len(bare([4] * 2000)), 2000)

    def test_most_places(self):
        self.assertEqual(len(Web([0] * 2000, [])), 2000)
        self.refused(TooGreat, 2000, Web, [0] * 2001, [])
        self.refused(TooGreat, 2000, Web, (0,) * 2001, ())

    def test_most_ties(self):
        ties = some_ties(30001)
        web = Web([0] * 2000, ties[:30000])
        self.assertEqual(len(web.ties), 30000)
        self.refused(TooGreat, 30000, Web, [0] * 2000, ties)
        self.refused(TooGreat, 30000, Web, [0] * 2000, tuple(ties))
        self.assertEqual(len(full(245).ties), 29890)


def range_list(many):
    return list(range(many))


class BadColoursRefused(Case):

    def test_no_list_or_tuple_or_none_at_all(self):
        for value in wrong_values() + ["012", {0, 1}, iter([0])]:
            if not (isinstance(value, (list, tuple)) and len(value) > 0):
                with self.subTest(value=value):
                    self.refused(BadColours, None, Web, value, [])

    def test_items_that_are_no_colours(self):
        for value in wrong_values() + [10, 11, HUGE]:
            with self.subTest(value=value):
                self.refused(BadColours, 0, Web, [value], [])
                self.refused(BadColours, 2, Web, (0, 9, value, 0), [])

    def test_the_first_item_at_fault(self):
        self.refused(BadColours, 1, Web, [0, 10, -1, None], [])
        self.refused(BadColours, 1999, Web, [0] * 1999 + [10], [])

    def test_too_many_ahead_of_items(self):
        self.refused(TooGreat, 2000, Web, [None] * 2001, [])
        self.refused(BadColours, 0, Web, [None] * 2000, [])

    def test_colours_ahead_of_ties(self):
        self.refused(BadColours, None, Web, None, None)
        self.refused(BadColours, None, Web, [], [(0, 0)])
        self.refused(TooGreat, 2000, Web, [0] * 2001, None)
        self.refused(BadColours, 1, Web, [0, 10], None)
        self.refused(BadColours, 1, Web, [0, 10], [(0, 1)] * 30001)


class BadTiesRefused(Case):

    def test_no_list_or_tuple(self):
        for value in wrong_values() + ["01", {(0, 1)}, iter([(0, 1)])]:
            if not isinstance(value, (list, tuple)):
                with self.subTest(value=value):
                    self.refused(BadTies, None, Web, [0, 0], value)

    def test_items_that_are_no_pairs(self):
        for value in wrong_values() + [[0, 2], (0, 2, 2), (0,), "02", {0: 2}, ((0, 2),)]:
            with self.subTest(value=value):
                self.refused(BadTies, 0, Web, [0, 0, 0], [value])
                self.refused(BadTies, 1, Web, [0, 0, 0], [(0, 1), value])

    def test_pairs_with_what_is_no_place(self):
        for value in wrong_values() + [3, 4, HUGE]:
            with self.subTest(value=value):
                self.refused(BadTies, 0, Web, [0, 0, 0], [(value, 2)])
                self.refused(BadTies, 0, Web, [0, 0, 0], [(0, value)])
                self.refused(BadTies, 0, Web, [0, 0, 0], [(value, value)])

    def test_true_and_false_are_no_places(self):
        self.refused(BadTies, 0, Web, [0, 0], [(False, True)])
        self.refused(BadTies, 0, Web, [0, 0], [(0, True)])
        self.refused(BadTies, 0, Web, [0, 0], [(False, 1)])

    def test_the_lesser_one_first(self):
        self.refused(BadTies, 0, Web, [0, 0], [(1, 0)])
        self.refused(BadTies, 1, Web, [0, 0, 0], [(0, 1), (2, 1)])
        self.refused(BadTies, 0, Web, [0, 0], [(0, 0)])
        self.refused(BadTies, 0, Web, [0, 0], [(1, 1)])

    def test_in_ascending_order(self):
        self.refused(BadTies, 1, Web, [0] * 4, [(0, 2), (0, 1)])
        self.refused(BadTies, 1, Web, [0] * 4, [(1, 2), (0, 3)])
        self.refused(BadTies, 2, Web, [0] * 4, [(0, 1), (2, 3), (1, 3)])

    def test_twice(self):
        self.refused(BadTies, 1, Web, [0, 0], [(0, 1), (0, 1)])
        self.refused(BadTies, 2, Web, [0] * 3, [(0, 1), (1, 2), (1, 2)])

    def test_the_first_item_at_fault(self):
        self.refused(BadTies, 1, Web, [0] * 4, [(0, 2), (0, 1), None])
        self.refused(BadTies, 1, Web, [0] * 4, [(0, 2), None, (0, 1)])

    def test_places_of_this_web(self):
        Web([0, 0], [(0, 1)])
        self.refused(BadTies, 0, Web, [0], [(0, 1)])
        self.refused(BadTies, 1, Web, [0, 0], [(0, 1), (0, 2)])

    def test_too_many_ahead_of_items(self):
        self.refused(TooGreat, 30000, Web, [0, 0], [None] * 30001)
        self.refused(BadTies, 0, Web, [0, 0], [None] * 30000)


def is_place(value, many):
    return isinstance(value, int) and not isinstance(value, bool) and 0 <= value < many


def first_fault(ties, many):
    """The number of the first item at fault, as the interface tells it word by word, or None."""
    for number, tie in enumerate(ties):
        if not (isinstance(tie, tuple) and len(tie) == 2 and all(is_place(end, many) for end in tie)):
            return number
        if not tie[0] < tie[1] or (number > 0 and not ties[number - 1] < tie):
            return number
    return None


class FirstFault(Case):
    """The ties of a web with some of them made wrong, for which the words tell the first fault."""

    def told(self, ties, many):
        fault = first_fault(ties, many)
        for value in (ties, tuple(ties)):
            if fault is None:
                web = Web([0] * many, value)
                self.assertEqual(web.ties, tuple(ties))
                near = [tuple(sorted(sum(tie) - place for tie in ties if place in tie))
                        for place in range(many)]
                self.assertEqual([web.neighbours(place) for place in range(many)], near)
            else:
                self.refused(BadTies, fault, Web, [0] * many, value)

    def test_each_list_of_two_pairs(self):
        ends = [-1, 0, 1, 2, 3, True, False]
        pairs = [(low, high) for low in ends for high in ends]
        for first in pairs:
            self.told([first], 3)
            for second in pairs:
                self.told([first, second], 3)

    def test_each_pair_behind_all_ties_of_its_lesser_place(self):
        for low in range(4):
            before = [tie for tie in all_pairs(5) if tie[0] <= low]
            for first in [0, 1, 2, 3, 4, 5, True, False, None, "1", (1,)]:
                for last in [0, 1, 2, 3, 4, 5, True, False, None, "4", (4,)]:
                    self.told(before + [(first, last), (3, 4)], 5)

    def test_what_equals_a_place(self):
        for kind in (fractions.Fraction, decimal.Decimal, complex):
            for low, high in ((0, 1), (1, 2), (2, 3)):
                self.told([(0, 1), (kind(low), high)], 4)
                self.told([(low, kind(high))], 4)
        self.told([(1, 2), (True, 3)], 4)
        self.told([(0, 1), (0, 2), (False, 3)], 4)

    def test_ties_with_items_made_wrong(self):
        dice = random.Random(7)
        for turn in range(3000):
            many = dice.randint(2, 9)
            ties = [tie for tie in all_pairs(many) if dice.random() < 0.5]
            for again in range(dice.randint(0, 2)):
                at = dice.randrange(len(ties) + 1)
                end = dice.choice([-1, 0, 1, 2, many - 1, many, True, False, None, "0", (0, 1), HUGE])
                tie = dice.choice([(end, dice.randrange(many)), (dice.randrange(many), end), (end,), end,
                                   [0, 1], (0, 1, 2), dice.choice(all_pairs(many))])
                ties[at:at + dice.randint(0, 1)] = [tie]
            self.told(ties, many)

    def test_the_last_of_many(self):
        ties = all_pairs(245)
        for tie in ((244, 245), (243, 244), (243, 243), (244, 243), (True, 244), None, [243, 244]):
            self.told(ties + [tie], 245)


class Neighbours(Case):

    def test_ascending_tuples(self):
        web = Web([0] * 5, [(0, 3), (1, 3), (2, 3), (3, 4)])
        self.assertEqual([web.neighbours(place) for place in range(5)],
                         [(3,), (3,), (3,), (0, 1, 2, 4), (3,)])

    def test_without_any(self):
        self.assertEqual(bare([0, 1]).neighbours(1), ())

    def test_as_the_ties_tell(self):
        web = Web([0] * 7, [tie for k, tie in enumerate(all_pairs(7)) if k % 3])
        for place in range(7):
            near = tuple(q for q in range(7) if tuple(sorted((place, q))) in web.ties)
            self.assertEqual(web.neighbours(place), near)

    def test_great_webs(self):
        self.assertEqual(star(1999).neighbours(0), tuple(range(1, 2000)))
        self.assertEqual(star(1999).neighbours(1999), (0,))

    def test_any_value_that_is_no_place(self):
        for web in (bare([0]), line(3)):
            for value in wrong_values() + [len(web), len(web) + 1, HUGE]:
                with self.subTest(value=value):
                    self.refused(BadPlace, value, web.neighbours, value)


class Equality(Case):

    def test_equal_webs(self):
        self.assertTrue(Web([0, 1], [(0, 1)]) == Web((0, 1), ((0, 1),)))
        self.assertFalse(Web([0, 1], [(0, 1)]) != Web((0, 1), ((0, 1),)))

    def test_other_webs(self):
        web = Web([0, 1, 0], [(0, 1)])
        for other in (Web([0, 1, 0], [(0, 2)]), Web([0, 1, 0], []), Web([0, 1, 1], [(0, 1)]),
                      Web([0, 1], [(0, 1)]), Web([0, 1, 0, 0], [(0, 1)]), Web([1, 0, 0], [(0, 1)])):
            self.assertFalse(web == other)
            self.assertTrue(web != other)
            self.assertFalse(other == web)

    def test_other_values(self):
        web = Web([0, 1], [(0, 1)])
        for value in [None, True, 2, "", "web", b"", [], (web.colours, web.ties), web.colours,
                      {}, set(), object(), Web, len]:
            with self.subTest(value=value):
                self.assertIs(web == value, False)
                self.assertIs(web != value, True)
                self.assertIs(value == web, False)
                self.assertIs(value != web, True)

    def test_no_other_operators(self):
        web = line(2)
        other = line(3)
        calls = [lambda x: web + x, lambda x: x + web, lambda x: web - x, lambda x: web * x,
                 lambda x: web < x, lambda x: web <= x, lambda x: web > x, lambda x: web >= x,
                 lambda x: web & x, lambda x: web | x, lambda x: web // x, lambda x: web[x]]
        for number, call in enumerate(calls):
            for value in (other, 1, None, (), "a"):
                with self.subTest(number=number, value=value):
                    self.assertRaises(TypeError, call, value)


if __name__ == "__main__":
    unittest.main()
