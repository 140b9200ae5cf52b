"""table and shares."""

import itertools
import math
import unittest

from tests.helpers import (bare, circulant, cover, cube, every_web, full, joined_by_words, line,
                           petersen, ring, shares_by_words, some_webs, star, table_by_words)
from viewkin.tables import shares, table
from viewkin.views import kinds
from viewkin.webs import Web, beside, renamed


def named(web):
    """For each place the number of its kind."""
    number = {place: at for at, kind in enumerate(kinds(web)) for place in kind}
    return [number[place] for place in range(len(web))]


class TableByHand(unittest.TestCase):

    def test_without_ties(self):
        self.assertEqual(table(bare([7])), ((0,),))
        self.assertEqual(table(bare([1, 0, 1])), ((0, 0), (0, 0)))

    def test_lines(self):
        self.assertEqual(table(line(2)), ((1,),))
        self.assertEqual(table(line(3)), ((0, 1), (2, 0)))
        self.assertEqual(table(line(4)), ((0, 1), (1, 1)))
        self.assertEqual(table(line(5)), ((0, 1, 0), (1, 0, 1), (0, 2, 0)))

    def test_rings(self):
        self.assertEqual(table(ring(3)), ((2,),))
        self.assertEqual(table(ring(8)), ((2,),))
        self.assertEqual(table(ring(6, [0, 1] * 3)), ((0, 2), (2, 0)))
        self.assertEqual(table(ring(6, [1, 0, 0] * 2)), ((0, 2), (1, 1)))

    def test_stars(self):
        self.assertEqual(table(star(4)), ((0, 4), (1, 0)))
        self.assertEqual(table(Web([0] * 4, [(0, 3), (1, 3), (2, 3)])), ((0, 1), (3, 0)))

    def test_many_ties(self):
        self.assertEqual(table(full(5)), ((4,),))
        self.assertEqual(table(cube()), ((3,),))
        self.assertEqual(table(petersen()), ((3,),))

    def test_two_pieces(self):
        self.assertEqual(table(beside(ring(3), ring(5))), ((2,),))
        self.assertEqual(table(beside(line(2), star(3))), ((1, 0, 0), (0, 0, 3), (0, 1, 0)))

    def test_in_the_order_of_kinds(self):
        web = Web([2, 1, 0], [(0, 1)])
        self.assertEqual(kinds(web), ((0,), (1,), (2,)))
        self.assertEqual(table(web), ((0, 1, 0), (1, 0, 0), (0, 0, 0)))
        self.assertEqual(table(renamed(web, (2, 0, 1))), ((0, 0, 1), (0, 0, 0), (1, 0, 0)))


class SharesByHand(unittest.TestCase):

    def test_without_ties(self):
        self.assertEqual(shares(bare([7])), (1,))
        self.assertEqual(shares(bare([1, 0, 1, 2, 2, 2])), (1, 1, 1))

    def test_lines(self):
        self.assertEqual(shares(line(1)), (1,))
        self.assertEqual(shares(line(2)), (1,))
        self.assertEqual(shares(line(3)), (2, 1))
        self.assertEqual(shares(line(4)), (1, 1))
        self.assertEqual(shares(line(5)), (2, 2, 1))

    def test_rings_and_stars(self):
        self.assertEqual(shares(ring(9)), (1,))
        self.assertEqual(shares(ring(9, [1, 0, 0] * 3)), (1, 2))
        self.assertEqual(shares(ring(6, [0, 1] * 3)), (1, 1))
        self.assertEqual(shares(star(4)), (1, 4))
        self.assertEqual(shares(Web([0] * 6, [(0, 5), (1, 5), (2, 5), (3, 5), (4, 5)])), (5, 1))

    def test_neither_divides_the_other(self):
        web = Web([0] * 5, [(a, b) for a in (0, 1) for b in (2, 3, 4)])
        self.assertEqual(table(web), ((0, 3), (2, 0)))
        self.assertEqual(shares(web), (2, 3))
        self.assertEqual(shares(cover(web, 4, 1)), (2, 3))

    def test_pieces_alike(self):
        self.assertEqual(shares(beside(star(3), star(3))), (1, 3))
        self.assertEqual(shares(beside(line(3), cover(line(3), 2, 1))), (2, 1))
        self.assertEqual(shares(beside(ring(4), ring(6))), (1,))

    def test_unlike_pieces_are_not_joined(self):
        self.assertEqual(shares(beside(star(2), star(4))), (1, 2, 1, 4))
        self.assertEqual(shares(beside(beside(ring(4), star(4)), star(4))), (1, 1, 4))
        self.assertEqual(shares(beside(star(2), beside(bare([5, 5]), star(2)))), (1, 2, 1))


class ByWords(unittest.TestCase):

    def agrees(self, web):
        names = named(web)
        found = table_by_words(web, names)
        many = len(kinds(web))
        rows, told = table(web), shares(web)
        self.assertEqual(rows, tuple(tuple(found[a].get(b, 0) for b in range(many)) for a in range(many)))
        self.assertEqual(told, tuple(shares_by_words(found)[name] for name in range(many)))
        for a, b in itertools.product(range(many), repeat=2):
            self.assertEqual(told[a] * rows[a][b], told[b] * rows[b][a])
        for a in range(many):
            self.assertGreater(told[a], 0)
            self.assertEqual(math.gcd(*[told[b] for b in joined_by_words(found, a)]), 1)
        for value in (rows, told) + rows:
            self.assertIsInstance(value, tuple)

    def test_every_small_web(self):
        for web in itertools.chain(every_web(1, 2), every_web(2, 2), every_web(3, 2), every_web(4, 1),
                                   every_web(5, 1)):
            self.agrees(web)

    def test_some_webs(self):
        for web in some_webs(21, 100, 30, 2):
            self.agrees(web)

    def test_webs_that_lie_over_others(self):
        for number, web in enumerate(some_webs(22, 40, 8, 2)):
            for many in (2, 3):
                above = cover(web, many, number)
                self.agrees(above)
                self.agrees(beside(above, web))
                self.assertEqual(table(above), table(web))
                self.assertEqual(shares(above), shares(web))
                self.assertEqual(table(beside(above, web)), table(web))
                self.assertEqual(shares(beside(above, web)), shares(web))


class GreatWebs(unittest.TestCase):

    def test_without_ties(self):
        web = bare([k % 7 for k in range(2000)])
        self.assertEqual(table(web), ((0,) * 7,) * 7)
        self.assertEqual(shares(web), (1,) * 7)

    def test_stars_and_rings(self):
        self.assertEqual(table(star(1999)), ((0, 1999), (1, 0)))
        self.assertEqual(shares(star(1999)), (1, 1999))
        self.assertEqual(table(ring(2000)), ((2,),))
        self.assertEqual(table(circulant(2000, range(1, 16))), ((30,),))
        self.assertEqual(shares(ring(2000, [1, 0, 0, 0] * 500)), (1, 2, 1))

    def test_a_line(self):
        rows = table(line(100))
        for place in range(50):
            near = {abs(place - 1) if place else 1: 1}
            near[min(place + 1, 49)] = 1
            self.assertEqual(rows[place], tuple(near.get(other, 0) for other in range(50)))
        self.assertEqual(shares(line(100)), (1,) * 50)
        self.assertEqual(shares(line(101)), (2,) * 50 + (1,))
        self.assertEqual(shares(line(1999)), (2,) * 999 + (1,))

    def test_each_place_of_a_kind_of_its_own(self):
        rows = table(line(2000, [1] + [0] * 1999))
        self.assertEqual((len(rows), len(rows[0])), (2000, 2000))
        for place in (0, 1, 999, 1999):
            self.assertEqual([k for k in range(2000) if rows[place][k]],
                             [k for k in (place - 1, place + 1) if 0 <= k < 2000])


if __name__ == "__main__":
    unittest.main()
