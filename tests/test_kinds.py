"""same_view, parted_at, kinds, kinds_at and depth_of."""

import itertools
import random
import unittest

from tests.helpers import (HUGE, Case, all_pairs, bare, cover, every_web, full, grouped, line,
                           numbered_views, ring, some_webs, star, view_by_words, wrong_values)
from viewkin.errors import BadNumber, BadPlace
from viewkin.views import depth_of, kinds, kinds_at, parted_at, same_view, view
from viewkin.webs import Web, beside, renamed


def small_webs():
    return list(itertools.chain(every_web(1, 2), every_web(2, 2), every_web(3, 2)))


def all_views(web, most):
    """The views of all places, to all depths up to one."""
    return [[view_by_words(web, place, depth) for place in range(len(web))]
            for depth in range(most + 1)]


class KindsByHand(Case):

    def test_one_place(self):
        self.assertEqual(kinds(bare([3])), ((0,),))
        self.assertEqual(kinds_at(bare([3]), 0), ((0,),))
        self.assertEqual(depth_of(bare([3])), 0)

    def test_without_ties(self):
        web = bare([1, 0, 1, 2, 0])
        for depth in (0, 1, 5, HUGE):
            self.assertEqual(kinds_at(web, depth), ((0, 2), (1, 4), (3,)))
        self.assertEqual(kinds(web), ((0, 2), (1, 4), (3,)))
        self.assertEqual(depth_of(web), 0)

    def test_lines(self):
        self.assertEqual(kinds(line(5)), ((0, 4), (1, 3), (2,)))
        self.assertEqual(kinds_at(line(5), 0), ((0, 1, 2, 3, 4),))
        self.assertEqual(kinds_at(line(5), 1), ((0, 4), (1, 2, 3)))
        self.assertEqual(kinds_at(line(5), 2), ((0, 4), (1, 3), (2,)))
        self.assertEqual([depth_of(line(many)) for many in range(1, 9)], [0, 0, 1, 1, 2, 2, 3, 3])

    def test_a_line_with_a_coloured_end(self):
        web = line(4, [1, 0, 0, 0])
        self.assertEqual(kinds_at(web, 0), ((0,), (1, 2, 3)))
        self.assertEqual(kinds_at(web, 1), ((0,), (1,), (2,), (3,)))
        self.assertEqual(depth_of(web), 1)

    def test_rings(self):
        self.assertEqual(kinds(ring(6)), ((0, 1, 2, 3, 4, 5),))
        self.assertEqual(depth_of(ring(6)), 0)
        self.assertEqual(kinds(ring(6, [0, 1] * 3)), ((0, 2, 4), (1, 3, 5)))
        self.assertEqual(kinds(ring(6, [1, 0, 0, 0, 0, 0])), ((0,), (1, 5), (2, 4), (3,)))
        self.assertEqual(depth_of(ring(6, [1, 0, 0, 0, 0, 0])), 2)

    def test_stars(self):
        self.assertEqual(kinds(star(4)), ((0,), (1, 2, 3, 4)))
        self.assertEqual(kinds_at(star(4), 0), ((0, 1, 2, 3, 4),))
        self.assertEqual(depth_of(star(4)), 1)

    def test_two_pieces(self):
        self.assertEqual(kinds(beside(ring(3), ring(4))), ((0, 1, 2, 3, 4, 5, 6),))
        self.assertEqual(kinds(beside(line(2), line(3))), ((0, 1), (2, 4), (3,)))
        self.assertEqual(kinds_at(beside(line(2), line(3)), 1), ((0, 1, 2, 4), (3,)))
        self.assertEqual(depth_of(beside(line(2), line(3))), 2)

    def test_where_the_rest_of_a_group_is_the_lesser_part(self):
        web = Web([0] * 7, [(0, 1), (0, 2), (0, 3), (0, 4), (1, 5), (2, 5), (3, 6), (4, 6)])
        self.assertEqual(kinds(web), ((0,), (1, 2, 3, 4), (5, 6)))
        web = Web([0] * 8, [(0, 1), (0, 2), (0, 3), (0, 4), (0, 5), (1, 6), (2, 7)])
        self.assertEqual(kinds(web), ((0,), (1, 2), (3, 4, 5), (6, 7)))


class KindsByWords(Case):

    def test_every_small_web(self):
        for web in small_webs() + list(every_web(4, 1)):
            most = len(web) + 1
            groups = [grouped(views) for views in all_views(web, most)]
            for depth in range(most + 1):
                self.assertEqual(kinds_at(web, depth), groups[depth])
            self.assertEqual(kinds(web), groups[-1])
            self.assertEqual(depth_of(web), groups.index(groups[-1]))

    def test_every_web_of_five_places(self):
        for web in every_web(5, 1):
            groups = [grouped(level[0]) for level in numbered_views([web], 5)]
            for depth in range(6):
                self.assertEqual(kinds_at(web, depth), groups[depth])
            self.assertEqual(depth_of(web), groups.index(groups[-1]))

    def test_some_webs(self):
        for web in some_webs(5, 150, 40, 2):
            groups = [grouped(level[0]) for level in numbered_views([web], len(web))]
            for depth in range(len(web) + 1):
                self.assertEqual(kinds_at(web, depth), groups[depth])
            self.assertEqual(kinds(web), groups[-1])
            self.assertEqual(depth_of(web), groups.index(groups[-1]))

    def test_trees_and_long_ways(self):
        dice = random.Random(6)
        for turn in range(40):
            many = dice.randint(2, 120)
            back = dice.choice([1, 2, 3, many])
            ties = sorted((dice.randint(max(0, k - back), k - 1), k) for k in range(1, many))
            web = Web([0] * many, ties)
            groups = [grouped(level[0]) for level in numbered_views([web], many)]
            for depth in list(range(0, many, 3)) + [many, HUGE]:
                self.assertEqual(kinds_at(web, depth), groups[min(depth, many)])
            self.assertEqual(depth_of(web), groups.index(groups[-1]))

    def test_views_of_kinds_are_the_same(self):
        for web in some_webs(7, 30, 8, 2):
            for depth in range(4):
                seen = [view(web, place, depth) for place in range(len(web))]
                self.assertEqual(kinds_at(web, depth), grouped(seen))

    def test_greater_depths_tell_as_much_and_more(self):
        for web in some_webs(8, 40, 25, 2):
            for depth in range(len(web)):
                before = {place: group for group in kinds_at(web, depth) for place in group}
                for group in kinds_at(web, depth + 1):
                    self.assertEqual(len({before[place] for place in group}), 1)
            self.assertEqual(kinds_at(web, len(web) - 1), kinds(web))
            self.assertEqual(kinds_at(web, HUGE), kinds(web))
            self.assertEqual(kinds_at(web, depth_of(web)), kinds(web))
            if depth_of(web) > 0:
                self.assertNotEqual(kinds_at(web, depth_of(web) - 1), kinds(web))

    def test_kinds_do_not_hang_on_names(self):
        for web in some_webs(9, 40, 25, 2):
            order = list(range(len(web)))
            random.Random(len(web)).shuffle(order)
            other = renamed(web, tuple(order))
            moved = tuple(sorted(tuple(sorted(order[p] for p in kind)) for kind in kinds(web)))
            self.assertEqual(kinds(other), moved)
            self.assertEqual(depth_of(other), depth_of(web))


class TwoPlacesByHand(Case):

    def test_of_one_web(self):
        web = line(5)
        self.assertIsNone(parted_at(web, 0, web, 4))
        self.assertIsNone(parted_at(web, 2, web, 2))
        self.assertEqual(parted_at(web, 0, web, 1), 1)
        self.assertEqual(parted_at(web, 1, web, 2), 2)
        self.assertEqual([same_view(web, 1, web, 2, depth) for depth in (0, 1, 2, 3, HUGE)],
                         [True, True, False, False, False])
        self.assertIs(same_view(web, 1, web, 3, HUGE), True)

    def test_colours(self):
        self.assertEqual(parted_at(bare([0]), 0, bare([1]), 0), 0)
        self.assertIs(same_view(bare([0]), 0, bare([1]), 0, 0), False)
        self.assertIsNone(parted_at(bare([1]), 0, bare([0, 1]), 1))
        self.assertIs(same_view(bare([1]), 0, bare([0, 1]), 1, HUGE), True)

    def test_lines(self):
        self.assertEqual(parted_at(line(5), 0, line(6), 0), 5)
        self.assertEqual(parted_at(line(5), 2, line(6), 2), 3)
        self.assertEqual(parted_at(line(1), 0, line(2), 0), 1)
        self.assertEqual(parted_at(line(3), 0, line(3, [0, 0, 1]), 0), 2)

    def test_rings_and_stars(self):
        self.assertIsNone(parted_at(ring(3), 0, ring(7), 5))
        self.assertIsNone(parted_at(ring(6, [0, 1] * 3), 2, ring(4, [1, 0] * 2), 1))
        self.assertEqual(parted_at(star(3), 0, star(4), 0), 1)
        self.assertEqual(parted_at(star(3), 1, star(4), 1), 2)
        self.assertEqual(parted_at(star(2), 0, ring(5), 1), 2)

    def test_places_of_one_number_in_unlike_webs(self):
        one = Web([0, 1, 2], [(0, 1)])
        other = Web([2, 0, 1], [(1, 2)])
        self.assertIsNone(parted_at(one, 0, other, 1))
        self.assertIsNone(parted_at(one, 1, other, 2))
        self.assertIsNone(parted_at(one, 2, other, 0))
        self.assertEqual(parted_at(one, 0, other, 0), 0)


class TwoPlacesByWords(Case):

    def test_every_pair_of_small_webs(self):
        webs = small_webs()
        views = [all_views(web, 6) for web in webs]
        for (one, left), (other, right) in itertools.product(zip(webs, views), repeat=2):
            for place, spot in itertools.product(range(len(one)), range(len(other))):
                unlike = [depth for depth in range(7) if left[depth][place] != right[depth][spot]]
                parted = unlike[0] if unlike else None
                self.assertEqual(parted_at(one, place, other, spot), parted)
                self.assertIs(same_view(one, place, other, spot, 2), 2 not in unlike)

    def test_some_pairs(self):
        webs = list(some_webs(10, 60, 12, 2))
        for one, other in zip(webs[::2], webs[1::2]):
            most = len(one) + len(other)
            levels = numbered_views([one, other], most)
            for place, spot in itertools.product(range(len(one)), range(len(other))):
                same = [left[place] == right[spot] for left, right in levels]
                parted = None if all(same) else same.index(False)
                self.assertEqual(parted_at(one, place, other, spot), parted)
                for depth in {0, 1, 2, 3, most - 1, most}:
                    self.assertIs(same_view(one, place, other, spot, depth), same[depth])
                self.assertIs(same_view(one, place, other, spot, HUGE), parted is None)

    def test_kinds_and_parted_at_agree(self):
        for web in some_webs(11, 30, 12, 2):
            number = {place: kind for kind in kinds(web) for place in kind}
            for place, spot in itertools.product(range(len(web)), repeat=2):
                parted = parted_at(web, place, web, spot)
                self.assertEqual(parted is None, number[place] == number[spot])
                self.assertEqual(parted, parted_at(web, spot, web, place))
                self.assertTrue(parted is None or parted <= depth_of(web))


class Foldings(Case):

    def test_rings_fold_onto_rings(self):
        one, other = ring(12, [0, 1, 1, 2] * 3), ring(4, [0, 1, 1, 2])
        for place in range(12):
            self.assertIsNone(parted_at(one, place, other, place % 4))
            self.assertTrue(same_view(one, place, other, place % 4, HUGE))

    def test_covers_fold_onto_what_they_cover(self):
        for number, web in enumerate(some_webs(12, 40, 9, 2)):
            for many in (1, 2, 3, 5):
                above = cover(web, many, number)
                for place in range(len(above)):
                    self.assertIsNone(parted_at(above, place, web, place // many))
                lifted = tuple(tuple(p * many + t for p in kind for t in range(many))
                               for kind in kinds(web))
                self.assertEqual(kinds(above), lifted)
                self.assertEqual(depth_of(above), depth_of(web))


class GreatWebs(Case):

    def test_a_line_of_2000_places(self):
        web = line(2000)
        self.assertEqual(kinds(web), tuple((k, 1999 - k) for k in range(1000)))
        self.assertEqual(depth_of(web), 999)
        self.assertEqual(len(kinds_at(web, 500)), 501)
        self.assertEqual(parted_at(web, 999, web, 998), 999)
        self.assertIsNone(parted_at(web, 3, web, 1996))

    def test_two_lines(self):
        self.assertEqual(parted_at(line(2000), 0, line(1999), 0), 1999)
        self.assertTrue(same_view(line(2000), 0, line(1999), 1998, 1998))
        self.assertFalse(same_view(line(2000), 0, line(1999), 1998, 1999))
        self.assertFalse(same_view(line(2000), 0, line(1999), 1998, HUGE))
        self.assertEqual(parted_at(line(2000), 0, line(2000, [0] * 1999 + [1]), 0), 1999)

    def test_a_thicket_at_a_long_line(self):
        ties = sorted(set(all_pairs(236)) | {(k, k + 1) for k in range(1999)})
        web = Web([0] * 2000, ties)
        self.assertEqual(len(kinds(web)), 1766)
        self.assertEqual(depth_of(web), 882)
        self.assertEqual(parted_at(web, 1999, line(2000), 0), 1765)
        self.assertIsNone(parted_at(web, 0, web, 234))
        self.assertEqual(parted_at(web, 1998, web, 1999), 1)

    def test_30000_ties(self):
        ties = sorted({tuple(sorted((k, (k + step) % 2000))) for k in range(2000)
                       for step in range(1, 16)})
        web = Web([0] * 2000, ties)
        self.assertEqual(len(web.ties), 30000)
        self.assertEqual(kinds(web), (tuple(range(2000)),))
        marked = Web([1] + [0] * 1999, ties)
        self.assertEqual(kinds(marked), ((0,),) + tuple((k, 2000 - k) for k in range(1, 1000)) + ((1000,),))
        self.assertEqual(depth_of(marked), 67)
        self.assertEqual(parted_at(web, 0, marked, 1000), 67)

    def test_other_great_webs(self):
        self.assertEqual(kinds(star(1999)), ((0,), tuple(range(1, 2000))))
        self.assertEqual(kinds(bare([k % 10 for k in range(2000)])),
                         tuple(tuple(range(k, 2000, 10)) for k in range(10)))
        self.assertEqual(kinds(ring(2000)), (tuple(range(2000)),))
        self.assertEqual(depth_of(ring(2000)), 0)
        self.assertEqual(kinds_at(ring(2000), HUGE), (tuple(range(2000)),))
        self.assertIsNone(parted_at(ring(2000), 3, ring(3), 1))
        self.assertIsNone(parted_at(full(245), 3, full(245), 1))


class Refused(Case):

    def test_any_value_that_is_no_place(self):
        one, other = line(3), line(2)
        for value in wrong_values() + [3, HUGE]:
            with self.subTest(value=value):
                self.refused(BadPlace, value, parted_at, one, value, other, 0)
                self.refused(BadPlace, value, same_view, one, value, other, 0, 0)
        for value in wrong_values() + [2, HUGE]:
            with self.subTest(value=value):
                self.refused(BadPlace, value, parted_at, one, 0, other, value)
                self.refused(BadPlace, value, same_view, one, 0, other, value, 0)

    def test_any_value_that_is_no_depth(self):
        for value in wrong_values():
            with self.subTest(value=value):
                self.refused(BadNumber, value, kinds_at, line(3), value)
                self.refused(BadNumber, value, same_view, line(3), 2, line(2), 1, value)

    def test_the_first_argument_at_fault(self):
        self.refused(BadPlace, 3, parted_at, line(3), 3, line(2), 2)
        self.refused(BadPlace, 3, same_view, line(3), 3, line(2), 2, -1)
        self.refused(BadPlace, 2, same_view, line(3), 2, line(2), 2, -1)
        self.refused(BadNumber, -1, same_view, line(3), 2, line(2), 1, -1)

    def test_places_are_those_of_their_own_web(self):
        self.assertEqual(parted_at(line(3), 2, line(2), 1), 2)
        self.refused(BadPlace, 2, parted_at, line(2), 2, line(3), 1)


if __name__ == "__main__":
    unittest.main()
