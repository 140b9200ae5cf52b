"""paper and is_paper."""

import itertools
import unittest

from tests.helpers import (HUGE, Case, alike_by_words, all_pairs, bare, circulant, cover, cube, every_web,
                           folding_by_words, full, line, numbered_views, petersen, prism, ring, some_webs,
                           star, wrong_values)
from viewkin.commons import alike
from viewkin.errors import TooGreat
from viewkin.foldings import is_folding
from viewkin.papers import is_paper, paper
from viewkin.webs import Web, beside


def small_webs():
    return list(itertools.chain(every_web(1, 2), every_web(2, 2), every_web(3, 1)))


def likes():
    return [(bare([0]), bare([0])), (bare([1, 0, 1]), bare([0, 1])), (ring(3), ring(4)), (line(5), line(5)),
            (full(4), cube()), (petersen(), prism()), (star(4), star(4)), (ring(5), beside(ring(3), ring(4))),
            (beside(star(2), star(3)), beside(star(3), star(2)))]


def unlikes():
    return [(bare([0]), bare([1])), (bare([0]), line(2)), (line(5), line(6)), (ring(3), line(3)),
            (star(3), star(4)), (ring(3), beside(ring(3), bare([1]))), (beside(line(2), ring(3)), ring(3)),
            (ring(6, [1, 0, 0, 0, 0, 0]), ring(7, [1, 0, 0, 0, 0, 0, 0])), (full(4), circulant(9, (1, 2)))]


def least_depth(webs, side, place):
    """The least depth to which no place of the other web has the view of this one, or None."""
    for depth, numbers in enumerate(numbered_views(webs, len(webs[0]) + len(webs[1]))):
        if numbers[side][place] not in numbers[1 - side]:
            return depth
    return None


def paper_by_words(one, other, value):
    """[18], of a tuple that has the form of a paper."""
    if value[0] == "view":
        return least_depth((one, other), value[1], value[2]) == value[3]
    web = Web(value[1], value[2])
    lengths = len(value[3]) == len(web) == len(value[4])
    return lengths and folding_by_words(web, one, value[3]) and folding_by_words(web, other, value[4])


def swapped(value):
    """The paper on the same webs the other way round."""
    if value[0] == "view":
        return ("view", 1 - value[1]) + value[2:]
    return value[:3] + (value[4], value[3])


class Paper(Case):

    def holds(self, one, other, sort):
        value = paper(one, other)
        self.assertIsInstance(value, tuple)
        self.assertEqual(value[0], sort)
        self.assertEqual(len(value), {"common": 5, "view": 4}[sort])
        for item in value[1:]:
            self.assertTrue(isinstance(item, tuple) == (sort == "common"))
        self.assertTrue(paper_by_words(one, other, value))
        self.assertIs(is_paper(one, other, value), True)
        self.assertIs(is_paper(other, one, swapped(value)), True)

    def test_webs_that_look_alike(self):
        for one, other in likes():
            self.holds(one, other, "common")
            self.holds(other, one, "common")

    def test_webs_that_do_not(self):
        for one, other in unlikes():
            self.holds(one, other, "view")
            self.holds(other, one, "view")

    def test_every_pair_of_small_webs(self):
        for one, other in itertools.product(small_webs(), repeat=2):
            self.holds(one, other, "common" if alike_by_words(one, other) else "view")

    def test_some_webs(self):
        webs = list(some_webs(51, 60, 7, 2))
        for number, web in enumerate(webs):
            other = webs[number - 1]
            self.holds(web, other, "common" if alike_by_words(web, other) else "view")
            self.holds(beside(web, bare([9])), web, "view")
            self.holds(cover(web, 2, number), beside(web, bare([9])), "view")

    def test_it_tells_the_web_of_common_by_its_fields(self):
        sort, colours, ties, first, second = paper(bare([3]), bare([3]))
        self.assertEqual((colours, ties, first, second), ((3,), (), (0,), (0,)))

    def test_places_on_the_one_side_alone(self):
        self.assertEqual(paper(bare([0]), bare([0, 1])), ("view", 1, 1, 0))
        self.assertEqual(paper(bare([0, 1]), bare([0])), ("view", 0, 1, 0))
        self.assertEqual(paper(beside(ring(3), line(2)), ring(3))[:2], ("view", 0))
        self.assertEqual(paper(ring(3), beside(line(2), ring(4)))[:2], ("view", 1))

    def test_more_than_24_places(self):
        self.holds(ring(24), ring(20), "common")
        for one, other in ((ring(25), ring(3)), (ring(3), ring(25)), (bare([0] * 25), bare([0])),
                           (full(25), full(25)), (line(2000), line(2000))):
            self.refused(TooGreat, 24, paper, one, other)

    def test_a_plain_size_above_2000(self):
        self.refused(TooGreat, 2000, paper, full(24), full(24))
        self.refused(TooGreat, 2000, paper, circulant(22, (1, 2)), circulant(23, (1, 2)))
        self.holds(circulant(20, (1, 2, 10)), circulant(20, (1, 3, 10)), "common")

    def test_no_limits_for_other_webs(self):
        self.holds(full(24), full(23), "view")
        self.holds(full(25), beside(full(25), bare([0])), "view")
        self.holds(ring(100), line(100), "view")
        self.holds(line(61), line(62), "view")
        self.holds(star(80), star(81), "view")
        self.holds(ring(99, [1] + [0] * 98), ring(100, [1] + [0] * 99), "view")
        self.holds(bare([0] * 2000), bare([1]), "view")

    def test_great_webs(self):
        value = paper(line(2000), line(1999))
        self.assertEqual(value[0], "view")
        self.assertIs(is_paper(line(2000), line(1999), value), True)
        self.assertIs(is_paper(line(2000), line(1999), ("view", 0, 0, 1999)), True)
        self.assertIs(is_paper(line(2000), line(1999), ("view", 0, 999, 1000)), True)
        self.assertIs(is_paper(line(2000), line(1999), ("view", 1, 999, 999)), False)
        self.assertIs(is_paper(line(2000), line(1999), ("view", 1, 999, 1000)), True)


class ViewPapers(Case):

    def test_every_paper_on_small_webs(self):
        for one, other in itertools.product(small_webs(), repeat=2):
            webs = (one, other)
            for side in (0, 1):
                for place in range(len(webs[side])):
                    least = least_depth(webs, side, place)
                    for depth in range(7):
                        self.assertIs(is_paper(one, other, ("view", side, place, depth)), depth == least)

    def test_every_place_of_greater_webs(self):
        webs = list(some_webs(52, 30, 14, 2))
        for number, web in enumerate(webs):
            pair = (web, webs[number - 1])
            for side in (0, 1):
                for place in range(len(pair[side])):
                    least = least_depth(pair, side, place)
                    found = [depth for depth in range(30) if is_paper(*pair, ("view", side, place, depth))]
                    self.assertEqual(found, [] if least is None else [least])

    def test_by_hand(self):
        one, other = line(5), line(6)
        for side, place, depth in ((0, 0, 5), (0, 1, 4), (0, 2, 3), (0, 4, 5), (1, 0, 5), (1, 2, 3), (1, 5, 5)):
            self.assertIs(is_paper(one, other, ("view", side, place, depth)), True)
            self.assertIs(is_paper(other, one, ("view", 1 - side, place, depth)), True)
            for wrong in (depth - 1, depth + 1, -depth, 0, HUGE, -1, -HUGE):
                self.assertIs(is_paper(one, other, ("view", side, place, wrong)), False)

    def test_a_place_with_its_like_in_the_other_web(self):
        one, other = ring(3), beside(ring(3), bare([1]))
        self.assertIs(is_paper(one, other, ("view", 1, 3, 0)), True)
        for depth in range(6):
            self.assertIs(is_paper(one, other, ("view", 0, 0, depth)), False)
            self.assertIs(is_paper(one, other, ("view", 1, 0, depth)), False)

    def test_sides_and_places(self):
        one, other = bare([0]), bare([1, 1])
        for side, place, wanted in ((0, 0, True), (1, 0, True), (1, 1, True), (0, 1, False), (1, 2, False),
                                    (2, 0, False), (-1, 0, False), (0, -1, False), (1, -1, False),
                                    (HUGE, 0, False), (0, HUGE, False), (1, -HUGE, False)):
            self.assertIs(is_paper(one, other, ("view", side, place, 0)), wanted)

    def test_one_item_of_another_kind(self):
        one, other = bare([0, 0]), bare([1, 1])
        for value in wrong_values() + [(0, 1), [[0]], "view", 1j, bare([1])]:
            for at in range(1, 4):
                told = ["view", 0, 0, 0]
                told[at] = value
                with self.subTest(value=value, at=at):
                    self.assertIs(is_paper(one, other, tuple(told)), False)

    def test_true_and_false_are_no_integers(self):
        one, other = bare([0, 0]), star(2)
        for value in (("view", 0, 0, 1), ("view", 0, 1, 1), ("view", 1, 0, 1), ("view", 1, 1, 1)):
            self.assertIs(is_paper(one, other, value), True)
            for at in range(1, 4):
                told = list(value)
                told[at] = bool(told[at])
                self.assertIs(is_paper(one, other, tuple(told)), False)


class CommonPapers(Case):

    def setUp(self):
        self.one, self.other = ring(3), ring(4)
        self.good = ("common", ring(12).colours, ring(12).ties, tuple(k % 3 for k in range(12)),
                     tuple(k % 4 for k in range(12)))

    def told(self, wanted, value):
        self.assertIs(is_paper(self.one, self.other, value), wanted)

    def test_by_hand(self):
        self.told(True, self.good)
        self.told(True, self.good[:3] + (tuple((5 - k) % 3 for k in range(12)), self.good[4]))
        self.told(True, paper(self.one, self.other))

    def test_of_greater_webs_than_common_takes(self):
        one, other = ring(26), ring(39)
        value = ("common", ring(78).colours, ring(78).ties, tuple(k % 26 for k in range(78)),
                 tuple(k % 39 for k in range(78)))
        self.assertIs(is_paper(one, other, value), True)
        self.assertIs(is_paper(other, one, value), False)
        self.assertIs(is_paper(other, one, swapped(value)), True)
        web = circulant(2000, range(1, 16))
        self.assertIs(is_paper(web, web, ("common", web.colours, web.ties) + (tuple(range(2000)),) * 2), True)

    def test_one_thing_otherwise(self):
        sort, colours, ties, first, second = self.good
        for at in range(12):
            bent = (at, (first[at] + 1) % 3), (at, (first[at] + 2) % 3)
            for place, spot in bent:
                self.told(False, (sort, colours, ties, first[:place] + (spot,) + first[place + 1:], second))
            for spot in range(4):
                value = (sort, colours, ties, first, second[:at] + (spot,) + second[at + 1:])
                self.told(spot == second[at], value)
            self.told(False, (sort, colours[:at] + (1,) + colours[at + 1:], ties, first, second))
            self.told(False, (sort, colours, ties[:at] + ties[at + 1:], first, second))
        for more in set(all_pairs(12)) - set(ties):
            self.told(False, (sort, colours, tuple(sorted(ties + (more,))), first, second))

    def test_too_short_and_too_long(self):
        sort, colours, ties, first, second = self.good
        self.told(False, (sort, colours[1:], ties, first, second))
        self.told(False, (sort, colours + (0,), ties, first, second))
        self.told(False, (sort, colours, ties, first[:11], second))
        self.told(False, (sort, colours, ties, first, second + (0,)))
        self.told(False, self.good + (0,))
        self.told(False, self.good[:4])
        self.told(False, (sort, (), (), (), ()))

    def test_sides_changed(self):
        self.told(False, swapped(self.good))
        self.assertIs(is_paper(self.other, self.one, self.good), False)
        self.assertIs(is_paper(self.other, self.one, swapped(self.good)), True)

    def test_papers_of_other_pairs(self):
        for one, other in likes() + unlikes():
            if (one, other) != (self.one, self.other):
                self.assertIs(is_paper(one, other, self.good), False)
                self.told(False, paper(one, other))

    def test_each_paper_of_small_webs_on_each_pair(self):
        pairs = list(itertools.product(list(every_web(2, 2)) + list(every_web(3, 1))[::3], repeat=2))
        papers = [paper(one, other) for one, other in pairs]
        for (one, other), value in itertools.product(pairs, papers):
            if value[0] == "common":
                self.assertIs(is_paper(one, other, value), paper_by_words(one, other, value))

    def test_no_web(self):
        sort, colours, ties, first, second = self.good
        for wrong in ((ties[1], ties[0]) + ties[2:], ties + ties[-1:], ((1, 0),) + ties[1:],
                      ties[:-1] + ((10, 12),), (None,) + ties[1:], ([0, 1],) + ties[1:],
                      ((False, 1),) + ties[1:], ((0, True),) + ties[1:], ((0, 1, 2),) + ties[1:]):
            self.told(False, (sort, colours, wrong, first, second))
        for wrong in (10, -1, None, True, False, "0", (0,), [0]):
            self.told(False, (sort, (wrong,) + colours[1:], ties, first, second))

    def test_lists_in_the_place_of_tuples(self):
        for at in range(1, 5):
            value = list(self.good)
            value[at] = list(value[at])
            self.told(False, tuple(value))
        self.told(False, list(self.good))

    def test_one_item_of_another_kind(self):
        for value in wrong_values() + [(), (0,) * 12, ring(12), "common", HUGE, {k: 0 for k in range(12)}]:
            for at in range(1, 5):
                told = list(self.good)
                told[at] = value
                if tuple(told) != self.good:
                    with self.subTest(value=value, at=at):
                        self.told(False, tuple(told))

    def test_true_and_false_are_no_integers(self):
        value = ("common", (0, 0), ((0, 1),), (0, 1), (1, 0))
        self.assertIs(is_paper(line(2), line(2), value), True)
        for wrong in ((False, True), (0, True), (False, 1)):
            self.assertIs(is_paper(line(2), line(2), value[:3] + (wrong, (1, 0))), False)
            self.assertIs(is_paper(line(2), line(2), value[:4] + (wrong,)), False)
            self.assertIs(is_paper(line(2), line(2), value[:2] + ((wrong,),) + value[3:]), False)
        self.assertIs(is_paper(line(2), line(2), ("common", (0, False)) + value[2:]), False)

    def test_webs_beyond_the_limits_are_none(self):
        one = bare([4])
        for many, wanted in ((1, True), (2000, True), (2001, False), (2500, False)):
            value = ("common", (4,) * many, (), (0,) * many, (0,) * many)
            self.assertIs(is_paper(one, one, value), wanted)
        one = full(32)
        for copies, wanted in ((1, True), (60, True), (61, False)):
            ties = tuple((32 * k + a, 32 * k + b) for k in range(copies) for a, b in one.ties)
            down = tuple(range(32)) * copies
            self.assertEqual(len(ties) <= 30000, wanted)
            self.assertIs(is_paper(one, one, ("common", (0,) * 32 * copies, ties, down, down)), wanted)


class Same:
    """An object that says it is equal to everything."""

    def __eq__(self, other):
        return True

    def __hash__(self):
        return 0


class Rude:
    """An object that cannot be compared."""

    def __eq__(self, other):
        raise RuntimeError("not to be compared")


class AnyValue(Case):

    def test_objects_that_are_compared_in_their_own_way(self):
        for value in (Same(), Rude()):
            for one, other, good in ((bare([0]), bare([0]), ("common", (0,), (), (0,), (0,))),
                                     (bare([0]), bare([1]), ("view", 0, 0, 0))):
                self.assertIs(is_paper(one, other, good), True)
                self.assertIs(is_paper(one, other, value), False)
                for at in range(len(good)):
                    self.assertIs(is_paper(one, other, good[:at] + (value,) + good[at + 1:]), False)
            self.assertIs(is_folding(ring(3), ring(3), (0, value, 2)), False)

    def test_values_of_all_kinds(self):
        values = wrong_values() + [
            (), ("common",), ("view",), "common", "view", ("common", (0,), (), (0,)), ("view", 0, 0),
            ("view", 0, 0, 0, 0), ("common", 0, 0, 0), ("view", (0,), (), (0,), (0,)), (b"view", 0, 0, 0),
            ("View", 0, 0, 0), ("views", 0, 0, 0), ("", 0, 0, 0), (None, 0, 0, 0), (True, 0, 0, 0),
            (("view",), 0, 0, 0), (["view"], 0, 0, 0), ({}, 0, 0, 0), (bare([0]), 0, 0, 0),
            ["view", 0, 0, 0], {"view": 0}, {"view"}, (("view", 0, 0, 0),), [("view", 0, 0, 0)],
            "view000", ("Common", (0,), (), (0,), (0,)), (1, (0,), (), (0,), (0,)),
            (None, (0,), (), (0,), (0,)), ["common", (0,), (), (0,), (0,)], ring(3), (ring(3), ring(4))]
        for one, other in ((bare([0]), bare([0])), (bare([0]), bare([1])), (ring(3), ring(4))):
            for value in values:
                with self.subTest(value=value):
                    self.assertIs(is_paper(one, other, value), False)

    def test_nested_values(self):
        deep = (0, 1)
        for step in range(5000):
            deep = (deep, deep)
        round_list = [0]
        round_list.append(round_list)
        for value in (deep, round_list, tuple(round_list)):
            self.assertIs(is_paper(ring(3), ring(4), value), False)
            for form in (["common", (0,), (), (0,), (0,)], ["view", 0, 0, 0]):
                for at in range(len(form)):
                    told = list(form)
                    told[at] = value
                    self.assertIs(is_paper(bare([0]), bare([0]), tuple(told)), False)
                    self.assertIs(is_paper(bare([0]), bare([1]), tuple(told)), False)

    def test_there_are_not_papers_of_both_sorts(self):
        for one, other in itertools.product(small_webs(), repeat=2):
            views = [("view", side, place, depth) for side, web in ((0, one), (1, other))
                     for place in range(len(web)) for depth in range(7)]
            self.assertIs(any(is_paper(one, other, value) for value in views), not alike(one, other))


if __name__ == "__main__":
    unittest.main()
