"""is_folding."""

import itertools
import unittest

from tests.helpers import (HUGE, bare, circulant, cover, cube, every_web, folding_by_words, full, line,
                           petersen, prism, ring, some_webs, star, wrong_values)
from viewkin.foldings import is_folding
from viewkin.webs import Web, beside, renamed


def turned(many, onto, start, step):
    """How a ring goes around another one."""
    return tuple((start + step * place) % onto for place in range(many))


class ByHand(unittest.TestCase):

    def told(self, wanted, one, other, value):
        self.assertIs(is_folding(one, other, value), wanted, value)

    def test_rings_onto_shorter_rings(self):
        for many, onto in ((6, 3), (9, 3), (8, 4), (12, 4), (60, 5), (7, 7)):
            for start in range(onto):
                for step in (1, -1):
                    self.told(True, ring(many), ring(onto), turned(many, onto, start, step))

    def test_rings_onto_rings_that_do_not_divide_them(self):
        for value in itertools.product(range(4), repeat=6):
            self.told(False, ring(6), ring(4), value)
        self.told(False, ring(7), ring(3), turned(7, 3, 0, 1))
        self.told(False, ring(3), ring(6), (0, 1, 2))

    def test_bent_at_one_place(self):
        for one, other, value in ((ring(6), ring(3), turned(6, 3, 0, 1)), (line(4), line(4), (3, 2, 1, 0)),
                                  (cube(), cube(), tuple(range(8)))):
            self.told(True, one, other, value)
            for place in range(len(one)):
                for spot in range(len(other)):
                    if spot != value[place]:
                        self.told(False, one, other, value[:place] + (spot,) + value[place + 1:])

    def test_a_web_onto_itself(self):
        for web in (bare([3]), line(5), star(4), full(5), cube(), petersen(), beside(ring(3), line(2))):
            self.told(True, web, web, tuple(range(len(web))))
        self.told(True, line(5), line(5), (4, 3, 2, 1, 0))
        self.told(True, full(4), full(4), (2, 0, 3, 1))
        self.told(True, star(3), star(3), (0, 3, 1, 2))
        self.told(False, star(3), star(3), (1, 0, 2, 3))
        self.told(True, beside(line(2), line(2)), beside(line(2), line(2)), (3, 2, 1, 0))

    def test_turned_the_other_way_each_time(self):
        self.told(False, ring(6), ring(3), (0, 1, 2, 2, 1, 0))
        self.told(False, ring(4), ring(4), (0, 1, 0, 1))
        self.told(False, ring(4), line(2), (0, 1, 0, 1))
        self.told(False, line(3), line(2), (0, 1, 0))
        self.told(False, star(4), star(2), (0, 1, 1, 2, 2))

    def test_onto_one_place(self):
        self.told(True, bare([4, 4, 4]), bare([4]), (0, 0, 0))
        self.told(False, line(2), bare([0]), (0, 0))

    def test_colours(self):
        self.told(True, ring(4, [0, 1, 0, 1]), ring(4, [1, 0, 1, 0]), (1, 2, 3, 0))
        self.told(False, ring(4, [0, 1, 0, 1]), ring(4, [1, 0, 1, 0]), (0, 1, 2, 3))
        self.told(False, bare([0, 0]), bare([1]), (0, 0))
        self.told(False, line(2, [0, 1]), line(2), (0, 1))

    def test_too_short_and_too_long(self):
        value = turned(6, 3, 0, 1)
        for wrong in ((), value[:5], value + (0,), value + value, (0,)):
            self.told(False, ring(6), ring(3), wrong)

    def test_each_place_is_met(self):
        both = beside(ring(3), ring(3))
        self.told(True, both, ring(3), (0, 1, 2, 1, 2, 0))
        self.told(True, both, both, (3, 4, 5, 1, 2, 0))
        self.told(False, both, both, (0, 1, 2, 1, 2, 0))
        self.told(False, ring(3), both, (0, 1, 2))
        self.told(False, bare([0]), bare([0, 0]), (0,))
        self.told(False, bare([0, 0]), bare([0, 0]), (1, 1))

    def test_not_the_places_of_the_first_web(self):
        self.told(False, ring(6), ring(3), (3, 4, 5, 0, 1, 2))
        self.told(False, ring(6), ring(3), (0, 1, 2, 3, 4, 5))
        self.told(False, line(2), line(2), (-1, 0))
        self.told(False, line(2), line(2), (-2, -1))
        self.told(False, line(2), line(2), (0, HUGE))


class ByWords(unittest.TestCase):

    def test_all_tuples_for_every_pair_of_small_webs(self):
        webs = list(itertools.chain(every_web(1, 2), every_web(2, 2), every_web(3, 2)))
        for one, other in itertools.product(webs, repeat=2):
            for value in itertools.product(range(len(other)), repeat=len(one)):
                self.assertIs(is_folding(one, other, value), folding_by_words(one, other, value))

    def test_all_tuples_for_webs_of_four_places(self):
        webs = [web for number, web in enumerate(every_web(4, 1)) if number % 3 == 0]
        for one, other in itertools.product(webs, repeat=2):
            for value in itertools.permutations(range(4)):
                self.assertIs(is_folding(one, other, value), folding_by_words(one, other, value))

    def test_webs_that_lie_over_others(self):
        for number, web in enumerate(some_webs(31, 60, 9, 2)):
            for many in (1, 2, 3):
                above = cover(web, many, number)
                down = tuple(place // many for place in range(len(above)))
                self.assertIs(is_folding(above, web, down), True)
                self.assertIs(is_folding(web, above, down), many == 1)
                for at in range(0, len(down), 2):
                    wrong = down[:at] + ((down[at] + 1) % len(web),) + down[at + 1:]
                    self.assertIs(is_folding(above, web, wrong), folding_by_words(above, web, wrong))

    def test_other_names(self):
        for number, web in enumerate(some_webs(32, 40, 12, 2)):
            order = tuple(sorted(range(len(web)), key=lambda place: (place * 5 % 7, place)))
            self.assertIs(is_folding(web, renamed(web, order), order), True)


class AnyValue(unittest.TestCase):

    def test_values_of_all_kinds(self):
        webs = (bare([0]), ring(3), beside(ring(3), ring(3)))
        values = wrong_values() + [ring(3), (ring(3),), [0, 1, 2], {0: 0, 1: 1, 2: 2}, "012", range(3),
                                   iter((0, 1, 2)), (None,) * 3, ((0, 1, 2),), 3, HUGE, b"\x00\x01\x02"]
        for one, other in itertools.product(webs, repeat=2):
            for value in values:
                if not (isinstance(value, tuple) and value == (0,) and one == other == bare([0])):
                    with self.subTest(value=value):
                        self.assertIs(is_folding(one, other, value), False)

    def test_lists_in_the_place_of_tuples(self):
        self.assertIs(is_folding(ring(6), ring(3), [0, 1, 2, 0, 1, 2]), False)
        self.assertIs(is_folding(bare([0]), bare([0]), [0]), False)

    def test_items_of_all_kinds(self):
        for value in wrong_values() + [[0, 1], (0, 1), 3, HUGE, ring(3), "1", b"1", 1j]:
            for at in range(3):
                told = list((0, 1, 2))
                told[at] = value
                with self.subTest(value=value):
                    self.assertIs(is_folding(ring(3), ring(3), tuple(told)), False)

    def test_true_and_false_are_no_places(self):
        self.assertIs(is_folding(line(2), line(2), (0, 1)), True)
        for value in ((False, 1), (0, True), (False, True), (True, False)):
            self.assertIs(is_folding(line(2), line(2), value), False)
        self.assertIs(is_folding(bare([0]), bare([0]), (False,)), False)

    def test_nested_values(self):
        value = (0, 1, 2)
        for step in range(5000):
            value = (value, value, value)
        self.assertIs(is_folding(ring(3), ring(3), value), False)
        ring_of_lists = [0, 1]
        ring_of_lists.append(ring_of_lists)
        self.assertIs(is_folding(ring(3), ring(3), tuple(ring_of_lists)), False)

    def test_the_value_stays(self):
        value = ([0], [1], [2])
        is_folding(ring(3), ring(3), value)
        self.assertEqual(value, ([0], [1], [2]))


class GreatWebs(unittest.TestCase):

    def test_rings(self):
        self.assertIs(is_folding(ring(2000), ring(4), turned(2000, 4, 1, 1)), True)
        self.assertIs(is_folding(ring(2000), ring(1000), turned(2000, 1000, 7, -1)), True)
        self.assertIs(is_folding(ring(2000), ring(2000), turned(2000, 2000, 7, 1)), True)
        self.assertIs(is_folding(ring(2000), ring(2000), turned(2000, 2000, 7, 3)), False)
        self.assertIs(is_folding(ring(1999), ring(4), turned(1999, 4, 1, 1)), False)

    def test_most_ties(self):
        web = circulant(2000, range(1, 16))
        self.assertIs(is_folding(web, web, turned(2000, 2000, 5, -1)), True)
        self.assertIs(is_folding(web, circulant(100, range(1, 16)), turned(2000, 100, 0, 1)), True)
        self.assertIs(is_folding(web, circulant(100, range(2, 17)), turned(2000, 100, 0, 1)), False)

    def test_without_ties(self):
        self.assertIs(is_folding(bare([1] * 2000), bare([1]), (0,) * 2000), True)
        self.assertIs(is_folding(bare([1] * 2000), bare([1] * 2), (0,) * 1999 + (1,)), True)
        self.assertIs(is_folding(bare([1] * 2000), bare([1] * 2), (0,) * 2000), False)

    def test_ten_places_with_three_ties_each(self):
        self.assertIs(is_folding(petersen(), prism(), tuple(range(10))), False)
        self.assertIs(is_folding(prism(), prism(), tuple(range(5, 10)) + tuple(range(5))), True)


if __name__ == "__main__":
    unittest.main()
