"""pieces, beside, part and renamed."""

import itertools
import unittest

from tests.helpers import (HUGE, Case, all_pairs, bare, every_web, full, line, ring, some_webs, star,
                           wrong_values)
from viewkin.errors import BadOrder, TooGreat
from viewkin.webs import Web, beside, part, pieces, renamed


def joined(web, place, spot):
    """Whether ties lead from one place to another one, tried with all sets of places."""
    met = {place}
    for turn in range(len(web)):
        met |= {b for a, b in web.ties if a in met} | {a for a, b in web.ties if b in met}
    return spot in met


class Pieces(Case):

    def test_by_hand(self):
        self.assertEqual(pieces(bare([7])), ((0,),))
        self.assertEqual(pieces(bare([0, 0, 0])), ((0,), (1,), (2,)))
        self.assertEqual(pieces(line(4)), ((0, 1, 2, 3),))
        self.assertEqual(pieces(Web([0] * 6, [(0, 4), (1, 5), (2, 4)])), ((0, 2, 4), (1, 5), (3,)))
        self.assertEqual(pieces(Web([0] * 5, [(0, 4), (1, 3), (2, 4)])), ((0, 2, 4), (1, 3)))

    def test_as_the_words_tell(self):
        for web in itertools.chain(every_web(4, 1), some_webs(1, 30, 12, 2)):
            found = pieces(web)
            self.assertEqual(found, tuple(sorted(found)))
            self.assertEqual(sorted(itertools.chain(*found)), list(range(len(web))))
            number = {place: k for k, piece in enumerate(found) for place in piece}
            for piece in found:
                self.assertEqual(piece, tuple(sorted(piece)))
            for place, spot in itertools.product(range(len(web)), repeat=2):
                self.assertEqual(number[place] == number[spot], joined(web, place, spot))

    def test_great_webs(self):
        self.assertEqual(pieces(line(2000)), (tuple(range(2000)),))
        self.assertEqual(pieces(star(1999)), (tuple(range(2000)),))
        self.assertEqual(pieces(bare([0] * 2000)), tuple((k,) for k in range(2000)))


class Beside(Case):

    def test_by_hand(self):
        web = beside(Web([1, 2], [(0, 1)]), Web([3, 4, 5], [(0, 2), (1, 2)]))
        self.assertEqual(web, Web([1, 2, 3, 4, 5], [(0, 1), (2, 4), (3, 4)]))
        self.assertEqual(beside(bare([1]), bare([0])), bare([1, 0]))

    def test_pieces_are_those_of_both(self):
        for one in every_web(3, 1):
            for other in every_web(3, 1):
                both = beside(one, other)
                behind = tuple(tuple(3 + place for place in piece) for piece in pieces(other))
                self.assertEqual(pieces(both), pieces(one) + behind)
                self.assertEqual(part(both, [0, 1, 2]), one)
                self.assertEqual(part(both, [3, 4, 5]), other)

    def test_itself(self):
        web = ring(3)
        self.assertEqual(beside(web, web).ties, ((0, 1), (0, 2), (1, 2), (3, 4), (3, 5), (4, 5)))
        self.assertEqual(web, ring(3))

    def test_most_places(self):
        self.assertEqual(len(beside(line(1999), bare([1]))), 2000)
        self.refused(TooGreat, 2000, beside, line(1999), bare([0, 1]))
        self.refused(TooGreat, 2000, beside, bare([0]), line(2000))

    def test_most_ties(self):
        great = full(245)
        rest = all_pairs(245)[:110]
        self.assertEqual(len(beside(great, Web([0] * 245, rest)).ties), 30000)
        more = Web([0] * 245, all_pairs(245)[:111])
        self.refused(TooGreat, 30000, beside, great, more)
        self.refused(TooGreat, 30000, beside, more, great)

    def test_places_ahead_of_ties(self):
        ties = all_pairs(245)
        great = Web([0] * 1001, ties)
        self.refused(TooGreat, 2000, beside, great, great)
        self.refused(TooGreat, 30000, beside, Web([0] * 1000, ties), Web([0] * 1000, ties))


class Part(Case):

    def test_by_hand(self):
        web = Web([1, 2, 3, 4, 5], [(0, 1), (0, 4), (1, 3), (2, 3), (3, 4)])
        self.assertEqual(part(web, [1, 3, 4]), Web([2, 4, 5], [(0, 1), (1, 2)]))
        self.assertEqual(part(web, (0, 2)), bare([1, 3]))
        self.assertEqual(part(web, [4]), bare([5]))
        self.assertEqual(part(web, range_tuple(5)), web)
        self.assertEqual(part(bare([6]), (0,)), bare([6]))

    def test_places_stay(self):
        places = [0, 2]
        part(line(3), places)
        self.assertEqual(places, [0, 2])

    def test_pieces_hang_together(self):
        for web in some_webs(2, 30, 15, 3):
            for piece in pieces(web):
                self.assertEqual(len(pieces(part(web, piece))), 1)
                self.assertEqual(part(web, piece).colours, tuple(web.colours[p] for p in piece))
            self.assertEqual(sum(len(part(web, piece).ties) for piece in pieces(web)), len(web.ties))

    def test_great_web(self):
        self.assertEqual(part(line(2000), range_tuple(1999)), line(1999))


def range_tuple(many):
    return tuple(range(many))


class Renamed(Case):

    def test_by_hand(self):
        web = Web([1, 2, 3], [(0, 1), (1, 2)])
        self.assertEqual(renamed(web, (0, 1, 2)), web)
        self.assertEqual(renamed(web, (1, 2, 0)), Web([3, 1, 2], [(0, 2), (1, 2)]))
        self.assertEqual(renamed(web, (2, 1, 0)), Web([3, 2, 1], [(0, 1), (1, 2)]))
        self.assertEqual(renamed(bare([4]), (0,)), bare([4]))

    def test_each_place_is_what_it_was(self):
        for web in every_web(3, 2):
            for order in itertools.permutations(range(3)):
                other = renamed(web, order)
                for place in range(3):
                    self.assertEqual(other.colours[order[place]], web.colours[place])
                    near = sorted(order[spot] for spot in web.neighbours(place))
                    self.assertEqual(list(other.neighbours(order[place])), near)

    def test_there_and_back(self):
        for web in some_webs(3, 30, 20, 4):
            order = tuple(sorted(range(len(web)), key=lambda place: (place * 7 % 5, -place)))
            back = tuple(order.index(place) for place in range(len(web)))
            self.assertEqual(renamed(renamed(web, order), back), web)

    def test_great_web(self):
        order = tuple(range(1999, -1, -1))
        self.assertEqual(renamed(line(2000), order), line(2000))
        self.assertEqual(renamed(full(245), tuple(range(244, -1, -1))), full(245))

    def test_any_value_that_is_no_order(self):
        for web in (bare([0]), line(3)):
            for value in wrong_values():
                if value != (0,) or len(web) > 1:
                    with self.subTest(value=value):
                        self.refused(BadOrder, value, renamed, web, value)

    def test_no_tuple_with_each_place_once(self):
        for value in [[0, 1, 2], (0, 1), (0, 1, 2, 3), (0, 1, 1), (0, 0, 0), (0, 1, 3), (-1, 0, 1),
                      (1, 2, 3), (0, 1, HUGE), ((0,), 1, 2), (0, 1, 2, 2), {0: 0, 1: 1, 2: 2}, "012"]:
            with self.subTest(value=value):
                self.refused(BadOrder, value, renamed, line(3), value)

    def test_items_of_every_kind(self):
        for value in wrong_values():
            with self.subTest(value=value):
                self.refused(BadOrder, (1, value, 2), renamed, line(3), (1, value, 2))

    def test_true_and_false_are_no_places(self):
        self.refused(BadOrder, (False,), renamed, bare([0]), (False,))
        self.refused(BadOrder, (0, True), renamed, line(2), (0, True))


if __name__ == "__main__":
    unittest.main()
