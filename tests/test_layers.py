"""layered, down, count_layered, count_whole, leaves and unlayered."""

import itertools
import math
import random
import unittest

from tests.helpers import (HUGE, Case, all_pairs, bare, circulant, cover, cube, every_web, folding_by_words, full,
                           hub, line, petersen, ring, some_webs, star, whole_by_words, wrong_values)
from viewkin.errors import Apart, BadFolding, BadNumber, BadOrders, TooGreat
from viewkin.foldings import is_folding
from viewkin.layers import MOST_LAYERS, count_layered, count_whole, down, layered, leaves, unlayered
from viewkin.webs import Web, beside, renamed


def layered_by_words(web, many, orders):
    """[42], word by word: a tuple of the colours and the ties."""
    colours = [web.colours[place // many] for place in range(len(web) * many)]
    ties = sorted((low * many + t, high * many + order[t])
                  for (low, high), order in zip(web.ties, orders) for t in range(many))
    return tuple(colours), tuple(ties)


def all_orders(web, many):
    """All tuples of layer orders."""
    return itertools.product(itertools.permutations(range(many)), repeat=len(web.ties))


def whole_formula(many, excess):
    """W(many) of [53], word by word."""
    told = math.factorial(many) ** excess
    for j in range(1, many):
        told -= math.comb(many - 1, j - 1) * whole_formula(j, excess) * math.factorial(many - j) ** excess
    return told


def some_orders(web, many, seed):
    dice = random.Random(seed)
    return [tuple(dice.sample(range(many), many)) for tie in web.ties]


def small_webs():
    """Webs that hang together, with few tuples of layer orders."""
    return [bare([0]), line(2), line(2, [3, 4]), line(3), ring(3), ring(3, [0, 1, 1]), star(3), ring(4), line(4),
            Web([0] * 4, [(0, 1), (0, 2), (1, 2), (2, 3)])]


class Layered(Case):

    def test_constant(self):
        self.assertEqual(MOST_LAYERS, 12)

    def test_by_hand(self):
        self.assertEqual(layered(line(2, [4, 7]), 2, [(1, 0)]), Web([4, 4, 7, 7], [(0, 3), (1, 2)]))
        self.assertEqual(layered(ring(3), 2, [(0, 1), (0, 1), (1, 0)]),
                         Web([0] * 6, [(0, 2), (0, 4), (1, 3), (1, 5), (2, 5), (3, 4)]))
        self.assertEqual(layered(ring(3, [1, 2, 3]), 3, [(2, 0, 1), (0, 1, 2), (0, 1, 2)]),
                         Web([1] * 3 + [2] * 3 + [3] * 3, [(0, 5), (0, 6), (1, 3), (1, 7), (2, 4), (2, 8),
                                                           (3, 6), (4, 7), (5, 8)]))

    def test_one_layer(self):
        for web in (bare([5]), petersen(), line(7), beside(ring(3), bare([1]))):
            self.assertEqual(layered(web, 1, [(0,)] * len(web.ties)), web)

    def test_without_ties(self):
        self.assertEqual(layered(bare([3, 1]), 4, []), bare([3] * 4 + [1] * 4))
        self.assertEqual(layered(bare([3, 1]), 4, ()), bare([3] * 4 + [1] * 4))

    def test_as_the_words_tell(self):
        for number, web in enumerate(some_webs(61, 150, 10, 3)):
            for many in (1, 2, 3, 5, 12):
                orders = some_orders(web, many, number)
                told = layered(web, many, orders)
                self.assertEqual((told.colours, told.ties), layered_by_words(web, many, orders))
                self.assertEqual(layered(web, many, tuple(orders)), told)
                self.assertEqual([told.neighbours(place) for place in range(len(told))],
                                 [tuple(sorted(sum(tie) - place for tie in told.ties if place in tie))
                                  for place in range(len(told))])

    def test_down_is_a_folding(self):
        for number, web in enumerate(some_webs(62, 100, 10, 3)):
            for many in (1, 2, 3, 12):
                value = down(web, many)
                self.assertEqual(value, tuple(place // many for place in range(len(web) * many)))
                above = layered(web, many, some_orders(web, many, number))
                self.assertTrue(folding_by_words(above, web, value))
                self.assertIs(is_folding(above, web, value), True)

    def test_the_orders_stay(self):
        orders = [(1, 0), (0, 1)]
        layered(line(3), 2, orders)
        self.assertEqual(orders, [(1, 0), (0, 1)])

    def test_most_places_and_ties(self):
        self.assertEqual(len(layered(bare([0] * 500), 4, [])), 2000)
        self.assertEqual(len(layered(bare([0] * 2000), 1, [])), 2000)
        self.refused(TooGreat, 2000, layered, bare([0] * 501), 4, [])
        self.refused(TooGreat, 2000, layered, bare([0] * 2000), 2, ())
        self.refused(TooGreat, 2000, layered, line(1001), 2, [(0, 1)] * 1000)
        web = Web([0] * 160, all_pairs(160)[:2500])
        told = layered(web, 12, [tuple(range(12))] * 2500)
        self.assertEqual((len(told), len(told.ties)), (1920, 30000))
        web = Web([0] * 160, all_pairs(160)[:2501])
        self.refused(TooGreat, 30000, layered, web, 12, [tuple(range(12))] * 2501)
        self.refused(TooGreat, 30000, layered, full(245), 2, [(1, 0)] * 29890)
        self.refused(TooGreat, 2000, layered, full(245), 12, [tuple(range(12))] * 29890)
        self.assertEqual(layered(full(245), 1, [(0,)] * 29890), full(245))


class LayeredRefused(Case):

    def test_any_value_that_is_no_number_of_layers(self):
        for value in wrong_values() + [0, 13, 14, HUGE, "2", (2,), 1j]:
            for call, more in ((layered, ([(0, 1)],)), (layered, (None,)), (down, ()), (count_layered, ()),
                               (count_whole, ())):
                with self.subTest(value=value, call=call):
                    self.refused(BadNumber, value, call, line(2), value, *more)

    def test_all_numbers_of_layers(self):
        for many in range(1, 13):
            self.assertEqual(len(layered(line(2), many, [tuple(range(many))])), 2 * many)
            self.assertEqual(len(down(line(2), many)), 2 * many)

    def test_no_list_or_tuple_of_as_many_items(self):
        for value in wrong_values() + [[(0, 1)], [(0, 1)] * 3, ((0, 1),), "ab", {0: (0, 1), 1: (0, 1)},
                                       iter([(0, 1)] * 2), {(0, 1), (1, 0)}]:
            with self.subTest(value=value):
                self.refused(BadOrders, None, layered, line(3), 2, value)
        self.refused(BadOrders, None, layered, bare([0]), 2, [(0, 1)])
        self.refused(BadOrders, None, layered, bare([0]), 2, None)

    def test_items_that_are_no_layer_orders(self):
        for value in wrong_values() + [[0, 1], [1, 0], (0, 0), (1, 1), (0, 2), (-1, 0), (0, 1, 2), (1,), (True, 0),
                                       (0, True), (False, 1), (1, False), ("0", "1"), ((0, 1),), (None, 0), ([], 0),
                                       ({}, 1), (0, HUGE), "01", b"01", {0, 1}, range(2), (0, 1j)]:
            for at in range(2):
                for kind in (list, tuple):
                    orders = [(0, 1), (1, 0)]
                    orders[at] = value
                    with self.subTest(value=value):
                        self.refused(BadOrders, at, layered, line(3), 2, kind(orders))

    def test_one_layer_and_three(self):
        for value in ((False,), (1,), (0, 0), (), [0], (None,)):
            self.refused(BadOrders, 0, layered, line(2), 1, [value])
        for value in ((0, 1), (0, 1, 1), (0, 1, 3), (1, 2, 3), (True, 2, 0), (0, 2, True), [0, 1, 2], (0, 1, 2, 3)):
            self.refused(BadOrders, 1, layered, line(3), 3, [(2, 1, 0), value])

    def test_the_first_item_at_fault(self):
        self.refused(BadOrders, 1, layered, line(4), 2, [(0, 1), (0, 0), None])
        self.refused(BadOrders, 0, layered, line(4), 2, [None, (0, 0), None])

    def test_the_order_of_refusals(self):
        self.refused(BadNumber, 0, layered, line(3), 0, None)
        self.refused(BadNumber, None, layered, bare([0] * 2000), None, None)
        self.refused(BadOrders, None, layered, bare([0] * 2000), 12, None)
        self.refused(BadOrders, 999, layered, line(1001), 2, [(0, 1)] * 999 + [(0, 0)])
        self.refused(BadOrders, 29889, layered, full(245), 2, [(0, 1)] * 29889 + [(1, 1)])
        self.refused(TooGreat, 2000, layered, full(200), 11, [tuple(range(11))] * 19900)
        self.refused(TooGreat, 30000, layered, full(200), 10, [tuple(range(10))] * 19900)


class Counts(Case):

    def test_by_making_all_layered_webs(self):
        # [53]
        for web in small_webs():
            for many in (1, 2, 3, 4):
                if math.factorial(many) ** len(web.ties) <= 1500:
                    webs = [layered(web, many, orders) for orders in all_orders(web, many)]
                    self.assertEqual(count_layered(web, many), len(webs))
                    self.assertEqual(len({above.ties for above in webs}), len(webs))
                    self.assertEqual(count_whole(web, many), len([above for above in webs if whole_by_words(above)]))

    def test_by_hand(self):
        self.assertEqual(count_layered(ring(3), 2), 8)
        self.assertEqual(count_whole(ring(3), 2), 4)
        self.assertEqual(count_layered(ring(3), 3), 216)
        self.assertEqual(count_whole(ring(3), 3), 72)
        self.assertEqual(count_layered(bare([0]), 12), 1)
        self.assertEqual(count_layered(bare([0, 0, 0]), 7), 1)
        self.assertEqual([count_whole(bare([0]), many) for many in (1, 2, 12)], [1, 0, 0])
        self.assertEqual([count_whole(line(9), many) for many in (1, 2, 12)], [1, 0, 0])
        self.assertEqual(count_layered(line(2), 12), 479001600)
        # The layers of a ring are one ring for a twelfth of all orders of twelve layers.
        self.assertEqual(count_whole(ring(5), 12), math.factorial(12) ** 4 * math.factorial(11))

    def test_as_the_formula_tells(self):
        for web in (line(5), ring(4), full(4), cube(), petersen(), star(6), full(7), circulant(24, (1, 2))):
            excess = len(web.ties) - len(web) + 1
            for many in range(1, 13):
                fact = math.factorial(many)
                self.assertEqual(count_layered(web, many), fact ** len(web.ties))
                self.assertEqual(count_whole(web, many), fact ** (len(web) - 1) * whole_formula(many, excess))

    def test_colours_do_not_count(self):
        self.assertEqual(count_whole(ring(3, [0, 1, 2]), 4), count_whole(ring(3), 4))

    def test_very_great_numbers(self):
        web = full(245)
        many = count_layered(web, 12)
        self.assertEqual(many, math.factorial(12) ** 29890)
        whole = count_whole(web, 12)
        self.assertTrue(0 < whole < many)
        # Nearly all of them hang together; what is not comes from a single layer that does not.
        self.assertTrue((many - whole) * 10 ** 1000 < many)
        self.assertEqual(count_whole(web, 2), 2 ** 244 * (2 ** (29890 - 244) - 1))
        self.assertEqual(count_layered(bare([0] * 2000), 12), 1)

    def test_webs_that_do_not_hang_together(self):
        for web in (bare([0, 0]), beside(ring(3), ring(3)), bare([1] * 2000)):
            for many in (1, 2, 12):
                with self.assertRaises(Apart):
                    count_whole(web, many)
        self.assertEqual(count_layered(beside(ring(3), line(2)), 2), 16)

    def test_the_number_ahead_of_the_web(self):
        for value in (0, 13, True, None, HUGE):
            self.refused(BadNumber, value, count_whole, bare([0, 0]), value)


class Unlayered(Case):

    def holds(self, one, other, value):
        """What leaves and unlayered promise of a folding."""
        told = unlayered(one, other, value)
        self.assertIsInstance(told, tuple)
        many, orders, order = told
        self.assertEqual(many * len(other), len(one))
        self.assertEqual(leaves(one, other, value), many)
        self.assertIsInstance(orders, tuple)
        self.assertTrue(all(isinstance(item, tuple) for item in orders))
        self.assertIsInstance(order, tuple)
        self.assertEqual(renamed(one, order), layered(other, many, orders))
        for spot in range(len(other)):
            fibre = [place for place in range(len(one)) if value[place] == spot]
            self.assertEqual([order[place] for place in fibre], [spot * many + t for t in range(many)])
        return told

    def test_by_hand(self):
        self.assertEqual(self.holds(ring(6), ring(3), (0, 1, 2, 0, 1, 2)),
                         (2, ((0, 1), (1, 0), (0, 1)), (0, 2, 4, 1, 3, 5)))
        self.assertEqual(self.holds(ring(6), ring(3), (2, 1, 0, 2, 1, 0)),
                         (2, ((0, 1), (1, 0), (0, 1)), (4, 2, 0, 5, 3, 1)))
        self.assertEqual(self.holds(line(2), line(2), (1, 0)), (1, ((0,),), (1, 0)))
        self.assertEqual(self.holds(bare([3, 3, 3]), bare([3]), (0, 0, 0)), (3, (), (0, 1, 2)))
        self.assertEqual(self.holds(beside(line(2), line(2)), line(2), (0, 1, 1, 0)),
                         (2, ((0, 1),), (0, 2, 3, 1)))

    def test_there_and_back(self):
        for number, web in enumerate(some_webs(63, 200, 9, 2)):
            if whole_by_words(web):
                for many in (1, 2, 3, 12):
                    orders = tuple(some_orders(web, many, number))
                    above = layered(web, many, orders)
                    told = self.holds(above, web, down(web, many))
                    self.assertEqual(told, (many, orders, tuple(range(len(above)))))

    def test_every_layered_web_of_small_webs(self):
        # [51] and [52]
        for web in small_webs():
            for many in (1, 2, 3):
                if math.factorial(many) ** len(web.ties) <= 220:
                    for orders in all_orders(web, many):
                        above = layered(web, many, orders)
                        self.assertEqual(unlayered(above, web, down(web, many)),
                                         (many, orders, tuple(range(len(above)))))

    def test_every_folding_of_small_webs(self):
        webs = [web for many in (1, 2, 3) for web in every_web(many, 2)]
        held = 0
        for one, other in itertools.product(webs, repeat=2):
            for value in itertools.product(range(len(other)), repeat=len(one)):
                if not whole_by_words(other):
                    self.assertRaises(Apart, unlayered, one, other, value)
                    self.assertRaises(Apart, leaves, one, other, value)
                elif folding_by_words(one, other, value):
                    self.holds(one, other, value)
                    held += 1
                else:
                    self.refused(BadFolding, value, unlayered, one, other, value)
                    self.refused(BadFolding, value, leaves, one, other, value)
        self.assertGreater(held, 30)

    def test_other_names(self):
        for number, web in enumerate((ring(5), petersen(), full(5), cube(), line(4), hub(3, 4), star(6))):
            for many in (1, 2, 4, 11):
                above = cover(web, many, number)
                order = list(range(len(above)))
                random.Random(number).shuffle(order)
                other = renamed(above, tuple(order))
                value = tuple(order.index(place) // many for place in range(len(above)))
                self.holds(other, web, value)

    def test_leaves(self):
        for many in (1, 2, 7, 13, 60):
            self.assertEqual(leaves(ring(5 * many), ring(5), tuple(range(5)) * many), many)
        self.assertEqual(leaves(bare([1] * 2000), bare([1]), (0,) * 2000), 2000)
        self.assertEqual(leaves(ring(2000), ring(2000), tuple(range(2000))), 1)

    def test_more_than_12_leaves(self):
        self.assertEqual(self.holds(ring(36), ring(3), (0, 1, 2) * 12)[0], 12)
        self.refused(TooGreat, 12, unlayered, ring(39), ring(3), (0, 1, 2) * 13)
        self.refused(TooGreat, 12, unlayered, bare([0] * 2000), bare([0]), (0,) * 2000)
        self.refused(TooGreat, 12, unlayered, bare([0] * 13), bare([0]), (0,) * 13)
        self.assertEqual(self.holds(bare([0] * 12), bare([0]), (0,) * 12)[0], 12)

    def test_great_webs(self):
        web = circulant(1000, range(1, 16))
        above = cover(web, 2, 5)
        self.holds(above, web, down(web, 2))
        self.holds(ring(1992), ring(166), tuple(range(166)) * 12)

    def test_any_value_that_is_no_folding(self):
        for call in (leaves, unlayered):
            for value in wrong_values() + [[0, 1, 2, 0, 1, 2], (0, 1, 2), (0, 1, 2, 0, 1, 1), (0, 1, 2, 0, 1, 3),
                                           (False, 1, 2, 0, 1, 2), (0, True, 2, 0, 1, 2), "012012", HUGE,
                                           (0, 1, 2, 2, 1, 0), (0, 1, 2) * 3, ring(6), (None,) * 6]:
                with self.subTest(value=value):
                    self.refused(BadFolding, value, call, ring(6), ring(3), value)
            self.refused(BadFolding, (False,), call, bare([0]), bare([0]), (False,))
            self.refused(BadFolding, (0, 1, 2), call, ring(3), ring(6), (0, 1, 2))

    def test_the_order_of_refusals(self):
        for call in (leaves, unlayered):
            for value in (None, (0, 1, 2), (0, 1, 2, 3, 4, 5), ()):
                for other in (bare([0, 0]), beside(ring(3), ring(3)), bare([0] * 2000)):
                    with self.assertRaises(Apart) as caught:
                        call(ring(6), other, value)
                    self.assertEqual(type(caught.exception), Apart)
            both = beside(ring(3), ring(3))
            self.assertRaises(Apart, call, both, both, (0, 1, 2, 3, 4, 5))
            self.refused(BadFolding, (0, 1) * 1000, call, bare([0] * 2000), bare([0]), (0, 1) * 1000)
            self.assertEqual(leaves(both, ring(3), (0, 1, 2, 1, 2, 0)), 2)
        self.refused(BadFolding, (0, 1, 2) * 13, unlayered, ring(39, [1] + [0] * 38), ring(3), (0, 1, 2) * 13)

    def test_webs_stay(self):
        one, other = ring(6), ring(3)
        unlayered(one, other, (0, 1, 2, 0, 1, 2))
        self.assertEqual((one, other), (ring(6), ring(3)))


if __name__ == "__main__":
    unittest.main()
