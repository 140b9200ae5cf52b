"""foldings, count_foldings, folding_at, folding_number, turnings and lone."""

import inspect
import itertools
import math
import random
import unittest

from tests.helpers import (HUGE, Case, bare, circulant, cover, cube, every_web, folding_by_words,
                           foldings_by_words, full, grouped, hub, line, names_by_words, petersen, prism, ring,
                           shuffled, some_webs, star, whole_by_words, without_rings, wrong_values)
from viewkin.errors import Apart, BadFolding, BadNumber, TooGreat
from viewkin.foldings import is_folding
from viewkin.layers import down, layered
from viewkin.turnings import (MOST_FOLDED, MOST_FOLDINGS, count_foldings, folding_at, folding_number,
                              foldings, lone, turnings)
from viewkin.webs import Web, beside, renamed

TWO_WEBS = {
    "foldings": lambda one, other: next(foldings(one, other)),
    "count_foldings": count_foldings,
    "folding_at": lambda one, other: folding_at(one, other, None),
    "folding_number": lambda one, other: folding_number(one, other, None),
}


def double(web):
    """Each place twice, each tie from either one to the other's second one."""
    many = len(web)
    return Web(web.colours * 2, sorted(tie for low, high in web.ties
                                       for tie in ((low, high + many), (high, low + many))))


class Told(Case):

    def told(self, one, other, expected):
        """All functions tell just these foldings, which ascend."""
        made = list(foldings(one, other))
        self.assertEqual(made, expected)
        self.assertEqual(count_foldings(one, other), len(expected))
        for number in {0, 1, len(expected) // 2, len(expected) - 1}:
            if 0 <= number < len(expected):
                self.assertEqual(folding_at(one, other, number), expected[number])
                self.assertEqual(folding_number(one, other, expected[number]), number)
        for number in (-1, len(expected), len(expected) + 1):
            self.refused(BadNumber, number, folding_at, one, other, number)


class ByHand(Told):

    def test_constants(self):
        self.assertEqual((MOST_FOLDED, MOST_FOLDINGS), (24, 2000))

    def test_one_place(self):
        self.told(bare([3]), bare([3]), [(0,)])
        self.told(bare([3]), bare([4]), [])
        self.assertEqual(turnings(bare([0])), ((0,),))

    def test_rings_onto_shorter_rings(self):
        for many, onto in ((6, 3), (9, 3), (24, 3), (8, 4), (24, 12), (20, 5), (7, 7), (24, 24), (3, 3)):
            expected = sorted(tuple((start + step * place) % onto for place in range(many))
                              for start in range(onto) for step in (1, -1))
            self.told(ring(many), ring(onto), expected)

    def test_coloured_rings(self):
        self.told(ring(6, [0, 1, 2] * 2), ring(3, [0, 1, 2]), [(0, 1, 2, 0, 1, 2)])
        self.told(ring(4, [0, 1, 0, 1]), ring(4, [1, 0, 1, 0]), [(1, 0, 3, 2), (1, 2, 3, 0),
                                                                (3, 0, 1, 2), (3, 2, 1, 0)])

    def test_lines_and_stars(self):
        self.told(line(24), line(24), [tuple(range(24)), tuple(reversed(range(24)))])
        self.told(line(5), line(4), [])
        self.told(star(4), star(4), [(0,) + rest for rest in itertools.permutations(range(1, 5))])
        self.assertEqual(count_foldings(star(6), star(6)), 720)

    def test_webs_with_all_ties(self):
        for many in range(2, 7):
            self.told(full(many), full(many), sorted(itertools.permutations(range(many))))

    def test_cubes_and_the_like(self):
        for web, many in ((cube(), 48), (petersen(), 120), (prism(), 20), (double(full(4)), 48),
                          (double(petersen()), 240), (circulant(9, (1, 2)), 18)):
            self.assertEqual(count_foldings(web, web), many)
            self.assertEqual(len(turnings(web)), many)
        self.assertEqual(count_foldings(cube(), full(4)), 24)
        self.assertEqual(count_foldings(double(petersen()), petersen()), 120)
        self.assertEqual(count_foldings(double(full(4)), cube()), 48)

    def test_pairs_without_any(self):
        for one, other in ((petersen(), prism()), (ring(6), ring(4)), (ring(7), ring(3)), (ring(3), ring(6)),
                           (petersen(), full(4)), (line(3), line(2)), (star(4), star(3)), (line(2), bare([0])),
                           (ring(6), ring(3, [0, 0, 1])), (bare([0]), bare([1])), (line(4), ring(4)),
                           (circulant(24, (1, 2)), circulant(24, (1, 3))), (full(23), full(24)),
                           (cube(), circulant(6, (1, 3))), (circulant(8, (1, 4)), full(4))):
            self.told(one, other, [])
            self.assertEqual(next(foldings(one, other), None), None)

    def test_webs_that_look_alike_without_any(self):
        # Each place has a tie to all others but two, which are beside it on a ring.
        one, other = without_rings(3, 3, 6), without_rings(3, 3, 3, 3)
        self.told(one, other, [])
        self.told(other, one, [])
        self.assertEqual(count_foldings(one, one), 6 * 6 * 2 * 12)


class ByWords(Told):

    def test_every_pair_of_small_webs(self):
        webs = [web for many in (1, 2, 3) for web in every_web(many, 2) if whole_by_words(web)]
        webs += [web for web in every_web(4, 1) if whole_by_words(web)]
        for one, other in itertools.product(webs, repeat=2):
            self.assertEqual(list(foldings(one, other)), foldings_by_words(one, other))

    def test_layered_webs_onto_their_web(self):
        held = 0
        for number, web in enumerate(some_webs(51, 400, 8, 2)):
            for many in (1, 2, 3):
                above = shuffled(cover(web, many, number), number)
                if whole_by_words(above):
                    expected = foldings_by_words(above, web)
                    self.assertGreater(len(expected), 0)
                    self.told(above, web, expected)
                    held += 1
        self.assertGreater(held, 100)

    def test_webs_with_three_ties_at_each_place(self):
        webs = [full(4), cube(), petersen(), prism(), double(full(4)), circulant(6, (1, 3)), circulant(6, (2, 3))]
        webs += [web for web in (cover(full(4), many, many + 2) for many in (2, 3, 4, 5)) if whole_by_words(web)]
        for one, other in itertools.product(webs, repeat=2):
            self.told(one, shuffled(other, 3), foldings_by_words(one, shuffled(other, 3)))

    def test_turnings(self):
        for number, web in enumerate(some_webs(52, 200, 9, 2)):
            if whole_by_words(web):
                self.assertEqual(turnings(web), tuple(foldings_by_words(web, web)))
                self.assertEqual(list(turnings(web)), list(foldings(web, web)))

    def test_each_is_a_folding_and_a_turning_meets_each_place_once(self):
        for web in (petersen(), cube(), ring(24), hub(5, 4), circulant(20, (1, 3, 10)), line(9)):
            for value in turnings(web):
                self.assertTrue(folding_by_words(web, web, value))
                self.assertEqual(sorted(value), list(range(len(web))))

    def test_those_that_agree_at_a_place_and_beside_it(self):
        # [50], and its first part: one place is enough to tell the web that is met.
        for one, other in ((cube(), full(4)), (petersen(), petersen()), (ring(12), ring(4))):
            told = {}
            for value in foldings(one, other):
                key = tuple(value[place] for place in range(len(one)) if place == 0 or (0, place) in one.ties)
                self.assertEqual(told.setdefault(key, value)[0], value[0])
                self.assertTrue(is_folding(one, other, value))

    def test_numbers_there_and_back(self):
        for one, other in ((ring(24), ring(6)), (cube(), cube()), (full(5), full(5)), (cube(), full(4))):
            found = list(foldings(one, other))
            self.assertEqual(found, sorted(set(found)))
            for number, value in enumerate(found):
                self.assertEqual(folding_at(one, other, number), value)
                self.assertEqual(folding_number(one, other, value), number)

    def test_other_names(self):
        for web in (petersen(), prism(), hub(4, 3), line(6)):
            order = tuple(sorted(range(len(web)), key=lambda place: (place * 7 % 11, place)))
            self.assertEqual(count_foldings(web, renamed(web, order)), count_foldings(web, web))
            self.assertIn(order, list(foldings(web, renamed(web, order))))

    def test_layered_webs_in_the_words_of_the_document(self):
        orders = [(1, 0, 2), (0, 1, 2), (2, 0, 1), (0, 1, 2), (1, 2, 0), (2, 1, 0)]
        above = layered(full(4), 3, orders)
        self.assertTrue(whole_by_words(above))
        self.assertEqual(folding_at(above, full(4), folding_number(above, full(4), down(full(4), 3))),
                         down(full(4), 3))
        self.assertEqual(list(foldings(above, full(4))), foldings_by_words(above, full(4)))


class Generator(Case):

    def test_a_generator(self):
        self.assertTrue(inspect.isgenerator(foldings(ring(3), ring(3))))
        self.assertTrue(inspect.isgeneratorfunction(foldings))
        told = foldings(ring(6), ring(3))
        self.assertEqual(next(told), (0, 1, 2, 0, 1, 2))
        self.assertEqual(next(told), (0, 2, 1, 0, 2, 1))
        self.assertEqual(len(list(told)), 4)
        self.assertEqual(list(told), [])

    def test_errors_when_the_first_one_is_asked_for(self):
        pairs = ((bare([0, 0]), ring(3), Apart, []), (ring(25), ring(5), TooGreat, [24]),
                 (full(7), full(7), TooGreat, [2000]))
        for one, other, error, fields in pairs:
            told = foldings(one, other)
            with self.assertRaises(error) as caught:
                next(told)
            self.assertEqual(list(vars(caught.exception).values()), fields)

    def test_two_at_once(self):
        one, other = foldings(ring(4), ring(4)), foldings(ring(4), ring(4))
        self.assertEqual([value for pair in zip(one, other) for value in pair],
                         [value for value in turnings(ring(4)) for turn in range(2)])


class Refused(Case):

    def test_webs_that_do_not_hang_together(self):
        apart = beside(ring(3), ring(3))
        for name, call in TWO_WEBS.items():
            for one, other in ((apart, ring(3)), (ring(3), apart), (apart, apart), (bare([0] * 30), ring(25)),
                               (full(24), bare([0, 0])), (ring(2000), bare([0] * 2000))):
                with self.subTest(name=name):
                    with self.assertRaises(Apart) as caught:
                        call(one, other)
                    self.assertEqual(type(caught.exception), Apart)
        self.assertRaises(Apart, turnings, apart)
        self.assertRaises(Apart, turnings, bare([0] * 2000))

    def test_more_than_24_places(self):
        for name, call in TWO_WEBS.items():
            for one, other in ((ring(25), ring(5)), (ring(3), ring(27)), (full(25), full(25)), (line(2000), line(2)),
                               (ring(48), ring(24)), (line(25), bare([1]))):
                with self.subTest(name=name):
                    self.refused(TooGreat, 24, call, one, other)
        self.refused(TooGreat, 24, turnings, full(25))
        self.refused(TooGreat, 24, turnings, line(25))
        self.assertEqual(len(turnings(line(24))), 2)

    def test_more_than_2000_foldings(self):
        for name, call in TWO_WEBS.items():
            for one, other in ((full(7), full(7)), (star(7), star(7)), (full(24), full(24)), (star(23), star(23)),
                               (double(full(7)), full(7)), (double(full(12)), full(12)), (double(full(8)), full(8)),
                               (without_rings(*[3] * 8), without_rings(*[3] * 8)), (hub(7, 6, 6), hub(7, 6, 6))):
                with self.subTest(name=name):
                    self.refused(TooGreat, 2000, call, one, other)
        self.refused(TooGreat, 2000, turnings, full(24))
        self.refused(TooGreat, 2000, turnings, hub(7, 6, 6))

    def test_just_2000_foldings(self):
        web = hub(5, 5, 10)
        self.assertEqual(len(turnings(web)), 2000)
        self.assertEqual(count_foldings(web, shuffled(web, 1)), 2000)
        self.assertEqual(folding_at(web, web, 0), tuple(range(21)))
        self.refused(BadNumber, 2000, folding_at, web, web, 2000)
        self.assertEqual(14 * 12 * 12, 2016)
        self.refused(TooGreat, 2000, count_foldings, hub(7, 6, 6), shuffled(hub(7, 6, 6), 2))

    def test_none_is_not_too_many(self):
        # Both have more than 2,000 turnings, and look alike, but none folds onto the other one.
        one, other = without_rings(*[3] * 8), without_rings(*[3] * 6, 6)
        self.assertEqual(count_foldings(one, other), 0)
        self.assertEqual(count_foldings(other, one), 0)
        self.assertEqual(count_foldings(star(23), star(22)), 0)
        self.assertEqual(count_foldings(full(24), full(23)), 0)

    def test_any_value_that_is_no_number(self):
        for one, other, many in ((ring(6), ring(3), 6), (bare([0]), bare([0]), 1), (petersen(), prism(), 0)):
            for value in wrong_values() + [many, many + 1, HUGE, "1", 1j, (1,)]:
                with self.subTest(value=value):
                    self.refused(BadNumber, value, folding_at, one, other, value)

    def test_any_value_that_is_no_folding(self):
        for value in wrong_values() + [0, 1, HUGE, [0, 1, 2, 0, 1, 2], (0, 1, 2), (0, 1, 2, 0, 1, 1),
                                       (0, True, 2, 0, 1, 2), (False, 1, 2, 0, 1, 2), "012012",
                                       (0, 1, 2, 0, 1, 2, 0), ((0, 1, 2, 0, 1, 2),), (3, 4, 5, 3, 4, 5)]:
            with self.subTest(value=value):
                self.refused(BadFolding, value, folding_number, ring(6), ring(3), value)
        self.refused(BadFolding, (0, 1, 2), folding_number, petersen(), prism(), (0, 1, 2))
        self.refused(BadFolding, (False,), folding_number, bare([0]), bare([0]), (False,))

    def test_the_webs_ahead_of_the_value(self):
        self.assertRaises(Apart, folding_at, ring(3), bare([0, 0]), -1)
        self.assertRaises(Apart, folding_number, ring(3), bare([0, 0]), None)
        self.refused(TooGreat, 24, folding_at, line(25), line(3), None)
        self.refused(TooGreat, 2000, folding_at, full(7), full(7), None)
        self.refused(TooGreat, 2000, folding_number, full(7), full(7), tuple(range(7)))


class Lone(unittest.TestCase):

    def test_by_hand(self):
        for web, expected in ((bare([0]), (0,)), (bare([0, 0]), ()), (bare([0, 1, 0, 2]), (1, 3)),
                              (line(2), ()), (line(3), (1,)), (line(4), ()), (line(5), (2,)),
                              (line(2, [0, 1]), (0, 1)), (ring(5), ()), (ring(4, [0, 1, 0, 2]), (1, 3)),
                              (star(5), (0,)), (full(24), ()), (line(3, [5, 6, 7]), (0, 1, 2))):
            self.assertEqual(lone(web), expected)

    def test_webs_of_several_pieces(self):
        self.assertEqual(lone(beside(star(3), star(3))), ())
        self.assertEqual(lone(beside(star(3), star(4))), (0, 4))
        self.assertEqual(lone(beside(ring(3), ring(4))), ())
        self.assertEqual(lone(beside(line(3), line(5))), (1, 5))
        self.assertEqual(lone(beside(bare([4]), line(3))), (0, 2))

    def test_great_webs(self):
        self.assertEqual(lone(line(1999)), (999,))
        self.assertEqual(lone(line(2000)), ())
        self.assertEqual(lone(line(2000, [1] + [0] * 1999)), tuple(range(2000)))
        self.assertEqual(lone(bare([0] * 2000)), ())

    def test_as_the_kinds_tell(self):
        for web in some_webs(53, 200, 12, 2):
            groups = grouped(names_by_words(web)[0])
            self.assertEqual(lone(web), tuple(group[0] for group in groups if len(group) == 1))

    def test_renamed(self):
        for number, web in enumerate(some_webs(54, 60, 10, 3)):
            order = tuple(sorted(range(len(web)), key=lambda place: (place * 5 % 7, place)))
            self.assertEqual(lone(renamed(web, order)), tuple(sorted(order[place] for place in lone(web))))

    def test_lone_places_stay(self):
        for web in (star(5), hub(4, 3), line(7)):
            for value in turnings(web):
                for place in lone(web):
                    self.assertEqual(value[place], place)


class Fast(unittest.TestCase):
    """Pairs for which trying all that looks right would not come to an end."""

    def test_webs_without_rings(self):
        for one, other in itertools.permutations(((3,) * 8, (3,) * 6 + (6,), (4,) * 6, (4,) * 4 + (8,), (6,) * 4,
                                                  (12, 12), (24,), (3, 4, 5, 6, 6)), 2):
            one, other = without_rings(*one), shuffled(without_rings(*other), 9)
            self.assertEqual(count_foldings(one, other), 0)

    def test_rings_that_are_left_out(self):
        for rings in ((24,), (12, 12), (6, 6, 6, 6), (3, 4, 5, 6, 6), (11, 13)):
            many = math.prod(2 * ring for ring in rings)
            many *= math.prod(math.factorial(rings.count(ring)) for ring in set(rings))
            web = without_rings(*rings)
            if many <= 2000:
                self.assertEqual(count_foldings(web, shuffled(web, 4)), many)
            else:
                self.assertRaises(TooGreat, count_foldings, web, shuffled(web, 4))

    def test_two_places_over_each_of_a_web_with_all_ties(self):
        told = []
        for many, seed in itertools.product((7, 8, 12), range(8)):
            above = cover(full(many), 2, seed)
            for web in [above] + [bent(above, turn) for turn in range(6)]:
                if whole_by_words(web):
                    told.append(can_be_paired(web))
                    if told[-1]:
                        self.assertRaises(TooGreat, count_foldings, web, full(many))
                    else:
                        self.assertEqual(count_foldings(web, full(many)), 0)
        self.assertGreater(told.count(True), 20)
        self.assertGreater(told.count(False), 20)


def bent(web, seed):
    """A web in which two ties have changed ends, so that each place has as many as before."""
    dice = random.Random(seed)
    while True:
        (a, b), (c, d) = dice.sample(web.ties, 2)
        ties = set(web.ties) - {(a, b), (c, d)} | {tuple(sorted((a, c))), tuple(sorted((b, d)))}
        if len({a, b, c, d}) == 4 and len(ties) == len(web.ties):
            return Web(web.colours, sorted(ties))


def can_be_paired(web):
    """Whether all places can be paired such that those of a pair have no tie and no neighbour in common.

    Just then a web folds onto one with all ties that has half as many places.
    """
    near = [{place, *web.neighbours(place)} for place in range(len(web))]

    def goes(left):
        return not left or any(goes(left - {min(left), place}) for place in left
                               if not near[min(left)] & near[place])

    return goes(frozenset(range(len(web))))


if __name__ == "__main__":
    unittest.main()
