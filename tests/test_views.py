"""view: by hand, by the words of [11], and what is refused."""

import itertools
import unittest

from tests.helpers import (HUGE, Case, all_pairs, bare, every_web, line, ring, some_webs, star,
                           view_by_words, wrong_values)
from viewkin.errors import BadNumber, BadPlace, TooGreat
from viewkin.views import view
from viewkin.webs import Web


def colours_in(seen):
    """How many colours a view holds."""
    return 1 + sum(colours_in(near) for near in seen[1])


def depth_in(seen):
    """How many steps a view leads."""
    return max([1 + depth_in(near) for near in seen[1]], default=0)


def fan(more):
    """The view of place 0 to the depth 2 has 2,001 colours and so many more."""
    ends = [(0, k) for k in range(1, 1001)]
    return Web([0] * 1004, ends + [(1 + k // 3, 1001 + k % 3) for k in range(more)])


class ByHand(Case):

    def test_a_line_of_three_colours(self):
        web = line(3, [2, 3, 1])
        self.assertEqual(view(web, 0, 0), (2, ()))
        self.assertEqual(view(web, 1, 0), (3, ()))
        self.assertEqual(view(web, 0, 1), (2, ((3, ()),)))
        self.assertEqual(view(web, 1, 1), (3, ((1, ()), (2, ()))))
        self.assertEqual(view(web, 0, 2), (2, ((3, ((1, ()), (2, ()))),)))
        self.assertEqual(view(web, 1, 2), (3, ((1, ((3, ()),)), (2, ((3, ()),)))))
        self.assertEqual(view(web, 2, 3), (1, ((3, ((1, ((3, ()),)), (2, ((3, ()),)))),)))
        inner = (3, ((1, ()), (2, ())))
        self.assertEqual(view(web, 1, 3), (3, ((1, (inner,)), (2, (inner,)))))
        self.assertEqual(view(web, 0, 4), (2, ((3, ((1, (inner,)), (2, (inner,)))),)))

    def test_without_ties(self):
        for depth in (0, 1, 4, 20):
            self.assertEqual(view(bare([5]), 0, depth), (5, ()))
            self.assertEqual(view(bare([5, 6]), 1, depth), (6, ()))

    def test_as_often_as_they_come(self):
        self.assertEqual(view(star(3), 0, 1), (0, ((0, ()), (0, ()), (0, ()))))
        self.assertEqual(view(ring(3), 1, 2), (0, ((0, ((0, ()), (0, ()))), (0, ((0, ()), (0, ()))))))

    def test_in_ascending_order_as_tuples_are(self):
        web = Web([0, 1, 1, 1, 2], [(0, 1), (0, 2), (0, 3), (2, 4)])
        self.assertEqual(view(web, 0, 2), (0, ((1, ((0, ()),)), (1, ((0, ()),)),
                                               (1, ((0, ()), (2, ()))))))
        web = Web([0, 9, 1, 0], [(0, 1), (0, 2), (0, 3)])
        self.assertEqual(view(web, 0, 1), (0, ((0, ()), (1, ()), (9, ()))))

    def test_a_web_of_two_pieces(self):
        web = Web([0, 1, 2, 3], [(0, 2), (1, 3)])
        self.assertEqual(view(web, 3, 2), (3, ((1, ((3, ()),)),)))


class ByWords(Case):

    def test_every_small_web(self):
        for web in itertools.chain(every_web(1, 2), every_web(2, 2), every_web(3, 2), every_web(4, 1)):
            for place in range(len(web)):
                for depth in range(5):
                    self.assertEqual(view(web, place, depth), view_by_words(web, place, depth))

    def test_some_webs(self):
        for web in some_webs(4, 40, 9, 3):
            for place in range(len(web)):
                for depth in range(4):
                    expected = view_by_words(web, place, depth)
                    if colours_in(expected) <= 5000:
                        self.assertEqual(view(web, place, depth), expected)

    def test_tuples_and_whole_numbers_alone(self):
        seen = [view(ring(5, [0, 1, 2, 3, 4]), 2, 5)]
        while seen:
            last = seen.pop()
            self.assertEqual((type(last), len(last)), (tuple, 2))
            self.assertEqual((type(last[0]), type(last[1])), (int, tuple))
            self.assertEqual(list(last[1]), sorted(last[1]))
            seen.extend(last[1])


class Refused(Case):

    def test_any_value_that_is_no_place(self):
        for web in (bare([0]), line(3)):
            for value in wrong_values() + [len(web), HUGE]:
                for depth in (0, 1, 21, None, -1):
                    with self.subTest(value=value, depth=depth):
                        self.refused(BadPlace, value, view, web, value, depth)

    def test_any_value_that_is_no_depth(self):
        for value in wrong_values():
            with self.subTest(value=value):
                self.refused(BadNumber, value, view, line(3), 1, value)

    def test_depths_20_and_21(self):
        seen = view(line(2), 0, 20)
        self.assertEqual((colours_in(seen), depth_in(seen)), (21, 20))
        for web in (line(2), bare([0])):
            for depth in (21, 22, HUGE):
                self.refused(TooGreat, 5000, view, web, 0, depth)

    def test_5000_and_5001_colours(self):
        self.assertEqual(colours_in(view(fan(2999), 0, 2)), 5000)
        self.refused(TooGreat, 5000, view, fan(3000), 0, 2)
        self.assertEqual(colours_in(view(fan(3000), 0, 1)), 1001)

    def test_rings(self):
        self.assertEqual(colours_in(view(ring(3), 0, 11)), 4095)
        self.refused(TooGreat, 5000, view, ring(3), 0, 12)
        self.refused(TooGreat, 5000, view, ring(2000), 7, 20)

    def test_a_view_beyond_all_bounds_is_not_made(self):
        web = Web([0] * 245, all_pairs(245))
        self.refused(TooGreat, 5000, view, web, 0, 20)
        self.refused(TooGreat, 5000, view, star(1999), 0, 20)
        self.assertEqual(colours_in(view(star(1999), 0, 2)), 3999)
        self.refused(TooGreat, 5000, view, star(1999), 0, 3)

    def test_only_the_piece_of_the_place_counts(self):
        web = Web([0] * 247, all_pairs(245) + [(245, 246)])
        self.assertEqual(colours_in(view(web, 246, 20)), 21)


if __name__ == "__main__":
    unittest.main()
