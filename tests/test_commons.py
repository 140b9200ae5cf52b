"""alike, plain_size and common."""

import itertools
import random
import unittest

from tests.helpers import (Case, alike_by_words, bare, circulant, cover, cube, every_web, folding_by_words,
                           full, line, petersen, plain_size_by_words, prism, ring, some_webs, star)
from viewkin.commons import alike, common, plain_size
from viewkin.errors import TooGreat, Unlike
from viewkin.views import parted_at
from viewkin.webs import Web, beside, pieces, renamed


def small_webs():
    return list(itertools.chain(every_web(1, 2), every_web(2, 2), every_web(3, 2)))


def likes():
    """Pairs of webs that look alike, with plain sizes up to 2,000."""
    theta = Web([0] * 5, [(a, b) for a in (0, 1) for b in (2, 3, 4)])
    return [
        (ring(3), ring(4)), (ring(24), ring(24)), (ring(5), beside(ring(3), ring(4))),
        (ring(6, [0, 1] * 3), ring(8, [1, 0] * 4)), (ring(3, [0, 1, 1]), ring(12, [1, 1, 0] * 4)),
        (line(7), line(7)), (line(24), line(24)), (star(5), star(5)), (star(8), star(8)),
        (full(4), cube()), (full(4), petersen()), (cube(), petersen()), (petersen(), prism()),
        (full(4), full(4)), (full(5), circulant(9, (1, 2))), (theta, theta), (theta, cover(theta, 2, 3)),
        (cover(theta, 2, 4), cover(theta, 3, 5)), (bare([0]), bare([0])), (bare([0] * 24), bare([0] * 24)),
        (bare([0, 1, 2, 0]), bare([2, 1, 1, 0])), (beside(ring(3), bare([1])), beside(bare([1]), ring(4))),
        (beside(star(2), star(4)), beside(star(4), beside(star(2), star(4)))),
        (beside(line(2), ring(3)), beside(beside(ring(4), ring(5)), line(2))),
        (circulant(20, (1, 2, 10)), circulant(20, (3, 4, 10))),
    ]


def unlikes():
    """Pairs of webs that do not look alike."""
    return [
        (line(3), line(4)), (ring(3), line(3)), (star(3), star(4)), (bare([0]), bare([1])),
        (bare([0]), line(2)), (ring(3), beside(ring(3), bare([1]))), (bare([0, 1]), bare([0])),
        (cube(), circulant(9, (1, 2))), (ring(6, [0, 1] * 3), ring(6, [0, 1, 1] * 2)),
        (line(2), beside(line(2), line(3))), (beside(star(2), star(4)), star(4)),
        (ring(4, [1, 0, 0, 0]), ring(5, [1, 0, 0, 0, 0])), (line(24), line(23)), (full(4), full(5)),
    ]


class Alike(Case):

    def told(self, wanted, one, other):
        self.assertIs(alike(one, other), wanted)
        self.assertIs(alike(other, one), wanted)

    def test_by_hand(self):
        for one, other in likes():
            self.told(True, one, other)
        for one, other in unlikes():
            self.told(False, one, other)

    def test_every_pair_of_small_webs(self):
        for one, other in itertools.product(small_webs(), repeat=2):
            self.assertIs(alike(one, other), alike_by_words(one, other))

    def test_webs_of_four_places(self):
        webs = list(every_web(4, 1))
        for one, other in itertools.product(webs, webs[::5]):
            self.assertIs(alike(one, other), alike_by_words(one, other))

    def test_some_webs(self):
        webs = list(some_webs(41, 40, 12, 2))
        for number, web in enumerate(webs):
            self.told(True, web, web)
            self.told(True, web, cover(web, 3, number))
            self.told(True, cover(web, 2, number), beside(web, web))
            self.told(alike_by_words(web, webs[number - 1]), web, webs[number - 1])

    def test_one_place_tells_of_webs_that_hang_together(self):
        webs = [web for web in every_web(4, 1) if len(pieces(web)) == 1] + [ring(6), ring(3), line(2)]
        for one, other in itertools.product(webs, repeat=2):
            same = {parted_at(one, place, other, 0) is None for place in range(len(one))}
            self.assertIs(alike(one, other), True in same)

    def test_great_webs(self):
        self.told(True, line(2000), line(2000))
        self.told(False, line(2000), line(1999))
        self.told(True, ring(2000), ring(1999))
        self.told(False, ring(2000, [1] + [0] * 1999), ring(1999, [1] + [0] * 1998))
        self.told(True, bare([0, 1] * 1000), bare([1, 0]))
        self.told(False, bare([0, 1] * 1000), bare([1]))
        self.told(True, circulant(2000, range(1, 16)), circulant(1999, range(2, 17)))
        self.told(False, star(1999), star(1998))
        self.told(True, star(100), star(100))


class PlainSize(Case):

    def test_by_hand(self):
        for one, other, size in (
                (bare([0]), bare([0]), 1), (bare([0, 0]), bare([0, 0, 0]), 6),
                (bare([0, 1, 1]), bare([0, 0, 1]), 4), (line(2), line(2), 4), (ring(3), ring(4), 24),
                (line(3), line(3), 6), (star(4), star(4), 20), (full(4), cube(), 96),
                (petersen(), prism(), 300), (full(24), full(24), 13248),
                (beside(star(2), star(4)), beside(star(4), star(2)), 26)):
            with self.subTest(size=size):
                self.assertEqual(plain_size(one, other), size)
                self.assertEqual(plain_size(other, one), size)

    def test_great_numbers_of_pieces_that_are_not_joined(self):
        # Each place of a ring has the great number 2, be there other pieces or not.
        self.assertEqual(plain_size(beside(ring(3), bare([1])), beside(ring(4), bare([1]))), 25)
        self.assertEqual(plain_size(beside(ring(3), star(3)), beside(ring(4), star(3))), 24 + 12)

    def test_shares_count_too(self):
        # Shares 2 and 3, rows 3 and 2: the great number is 6, and 2 * 2 * 3 + 3 * 3 * 2 is 30.
        web = Web([0] * 5, [(a, b) for a in (0, 1) for b in (2, 3, 4)])
        self.assertEqual(plain_size(web, web), 30)

    def test_as_the_words_tell(self):
        for one, other in likes():
            self.assertEqual(plain_size(one, other), plain_size_by_words(one, other))
            self.assertEqual(plain_size(other, one), plain_size_by_words(one, other))
        for number, web in enumerate(some_webs(42, 60, 20, 2)):
            above = cover(web, 3, number)
            self.assertEqual(plain_size(web, web), plain_size_by_words(web, web))
            self.assertEqual(plain_size(above, web), plain_size_by_words(web, above))

    def test_every_pair_of_small_webs(self):
        for one, other in itertools.product(small_webs(), repeat=2):
            if alike(one, other):
                self.assertEqual(plain_size(one, other), plain_size_by_words(one, other))
            else:
                with self.assertRaises(Unlike):
                    plain_size(one, other)

    def test_webs_that_do_not_look_alike(self):
        for one, other in unlikes():
            for left, right in ((one, other), (other, one)):
                with self.assertRaises(Unlike) as caught:
                    plain_size(left, right)
                self.assertEqual(type(caught.exception), Unlike)
        with self.assertRaises(Unlike):
            plain_size(line(2000), line(1999))

    def test_great_webs(self):
        self.assertEqual(plain_size(ring(2000), ring(1999)), 2000 * 1999 * 2)
        self.assertEqual(plain_size(bare([3] * 2000), bare([3] * 2000)), 4000000)
        self.assertEqual(plain_size(line(2000), line(2000)), 1000 * 2 * 2)
        self.assertEqual(plain_size(star(1999), star(1999)), 1999 + 1999 * 1999)
        web = circulant(2000, range(1, 16))
        self.assertEqual(plain_size(web, web), 2000 * 2000 * 30)

    def test_a_very_great_number(self):
        # A line with ever more leaves at each place: each number of leaves is a product.
        ties, many = [(k, k + 1) for k in range(61)], 62
        for place in range(62):
            ties += [(place, many + k) for k in range(place)]
            many += place
        web = Web([0] * many, sorted(ties))
        size = plain_size(web, web)
        self.assertEqual(size, plain_size_by_words(web, web))
        self.assertGreater(size, 10 ** 20)


class Common(Case):

    def holds(self, one, other):
        """What common promises; the web it returns."""
        told = common(one, other)
        self.assertIsInstance(told, tuple)
        web, first, second = told
        self.assertIsInstance(web, Web)
        self.assertIsInstance(first, tuple)
        self.assertIsInstance(second, tuple)
        self.assertEqual((len(first), len(second)), (len(web), len(web)))
        self.assertTrue(folding_by_words(web, one, first))
        self.assertTrue(folding_by_words(web, other, second))
        if len(pieces(one)) == 1 and len(pieces(other)) == 1:
            self.assertEqual(len(pieces(web)), 1)
        return web

    def test_pairs(self):
        for one, other in likes():
            self.holds(one, other)
            self.holds(other, one)

    def test_every_pair_of_small_webs(self):
        for one, other in itertools.product(small_webs(), repeat=2):
            if alike(one, other):
                self.holds(one, other)
            else:
                self.assertRaises(Unlike, common, one, other)

    def test_every_pair_of_webs_of_four_places(self):
        webs = list(every_web(4, 1))
        for one, other in itertools.product(webs, webs[::3]):
            if alike(one, other):
                self.holds(one, other)

    def test_webs_of_three_ties_at_each_place(self):
        dice = random.Random(43)
        webs = [full(4), cube(), petersen(), prism()]
        webs += [cover(full(4), many, many) for many in (2, 3, 4)]
        for one, other in itertools.product(webs, repeat=2):
            order = list(range(len(other)))
            dice.shuffle(order)
            if len(one) * len(other) * 3 <= 2000:
                self.holds(one, renamed(other, tuple(order)))
            else:
                self.refused(TooGreat, 2000, common, one, other)

    def test_webs_over_one_web(self):
        held = 0
        for number, web in enumerate(some_webs(44, 120, 8, 2)):
            one, other = cover(web, 2, number), cover(web, 3, number + 1)
            if len(other) <= 24 and plain_size(one, other) <= 2000:
                self.holds(one, other)
                held += 1
            elif len(other) <= 24:
                self.refused(TooGreat, 2000, common, one, other)
        self.assertGreater(held, 40)

    def test_webs_that_do_not_look_alike(self):
        for one, other in unlikes():
            for left, right in ((one, other), (other, one)):
                with self.assertRaises(Unlike) as caught:
                    common(left, right)
                self.assertEqual(type(caught.exception), Unlike)

    def test_more_than_24_places(self):
        self.holds(ring(24), ring(20))
        self.holds(line(24), line(24))
        for one, other in ((ring(25), ring(3)), (ring(3), ring(25)), (bare([0] * 25), bare([0])),
                           (line(2000), line(2000)), (ring(25), ring(25))):
            self.refused(TooGreat, 24, common, one, other)

    def test_24_places_ahead_of_unlike(self):
        self.refused(TooGreat, 24, common, ring(25), bare([0]))
        self.refused(TooGreat, 24, common, bare([0]), ring(25))
        self.refused(TooGreat, 24, common, line(2000), line(1999))
        self.assertRaises(Unlike, common, line(24), ring(24))

    def test_24_places_ahead_of_the_plain_size(self):
        self.refused(TooGreat, 24, common, full(25), full(25))
        self.refused(TooGreat, 24, common, full(24), circulant(25, range(1, 12)))

    def test_unlike_ahead_of_the_plain_size(self):
        self.assertRaises(Unlike, common, full(24), full(23))
        self.assertRaises(Unlike, common, full(24), Web([1] * 24, full(24).ties))
        self.assertRaises(Unlike, common, beside(full(23), bare([1])), full(23))

    def test_the_plain_size(self):
        one, other = circulant(20, (1, 2, 10)), circulant(20, (1, 3, 10))
        self.assertEqual(plain_size(one, other), 2000)
        self.holds(one, other)
        one, other = circulant(22, (1, 2)), circulant(23, (1, 2))
        self.assertEqual(plain_size(one, other), 2024)
        self.refused(TooGreat, 2000, common, one, other)
        self.refused(TooGreat, 2000, common, other, one)
        self.refused(TooGreat, 2000, common, full(24), full(24))

    def test_webs_stay(self):
        one, other = ring(3), beside(ring(3), ring(4))
        common(one, other)
        self.assertEqual(one, ring(3))
        self.assertEqual(other, beside(ring(3), ring(4)))


if __name__ == "__main__":
    unittest.main()
