"""Conventions [0] to [4], for every function, method and class that has landed."""

import copy
import inspect
import unittest

from tests.helpers import Case, bare, line, ring, star
from viewkin.bench import Bench, tried
from viewkin.commons import alike, common, plain_size
from viewkin.errors import (Apart, BadColours, BadDeed, BadFolding, BadNumber, BadOrders, BadPlace, BadText, BadTies,
                            TooGreat, Unlike)
from viewkin.foldings import is_folding
from viewkin.layers import count_layered, count_whole, down, layered, leaves, unlayered
from viewkin.papers import is_paper, paper
from viewkin.tables import shares, table
from viewkin.texts import read_web, view_text, web_text
from viewkin.turnings import count_foldings, folding_at, folding_number, foldings, lone, turnings
from viewkin.views import depth_of, kinds, kinds_at, parted_at, same_view, view
from viewkin.webs import Web, beside, part, pieces, renamed


def calls():
    """Each function with arguments by their names."""
    one, other = line(4, [0, 1, 1, 2]), star(3)
    short, long = ring(3), ring(6)
    return [
        (table, {"web": one}),
        (shares, {"web": other}),
        (is_folding, {"one": long, "other": short, "value": (0, 1, 2, 0, 1, 2)}),
        (alike, {"one": short, "other": long}),
        (plain_size, {"one": long, "other": short}),
        (common, {"one": ring(4), "other": short}),
        (paper, {"one": short, "other": long}),
        (paper, {"one": one, "other": other}),
        (is_paper, {"one": one, "other": other, "value": ("view", 0, 1, 0)}),
        (pieces, {"web": one}),
        (beside, {"one": one, "other": other}),
        (part, {"web": one, "places": [1, 2]}),
        (renamed, {"web": one, "order": (2, 0, 3, 1)}),
        (view, {"web": one, "place": 1, "depth": 2}),
        (same_view, {"one": one, "place": 1, "other": other, "spot": 2, "depth": 3}),
        (parted_at, {"one": other, "place": 0, "other": other, "spot": 2}),
        (kinds, {"web": other}),
        (kinds_at, {"web": one, "depth": 1}),
        (depth_of, {"web": one}),
        (one.neighbours, {"place": 2}),
        (Web, {"colours": [1, 0], "ties": [(0, 1)]}),
        (foldings, {"one": long, "other": short}),
        (count_foldings, {"one": long, "other": short}),
        (folding_at, {"one": long, "other": short, "number": 2}),
        (folding_number, {"one": long, "other": short, "value": (2, 1, 0, 2, 1, 0)}),
        (turnings, {"web": other}),
        (lone, {"web": other}),
        (layered, {"web": line(3), "many": 2, "orders": [(1, 0), (0, 1)]}),
        (down, {"web": one, "many": 3}),
        (count_layered, {"web": short, "many": 4}),
        (count_whole, {"web": short, "many": 4}),
        (leaves, {"one": long, "other": short, "value": (2, 1, 0, 2, 1, 0)}),
        (unlayered, {"one": long, "other": short, "value": (2, 1, 0, 2, 1, 0)}),
        (web_text, {"web": one}),
        (read_web, {"text": "0 1\n0-1"}),
        (view_text, {"value": (0, ((1, ()),))}),
        (Bench, {"web": one}),
        (tried, {"bench": Bench(short), "function": lambda bench: bench.do(("untie", 0, 1))}),
        (BadNumber, {"value": 3}),
        (BadColours, {"place": 3}),
        (TooGreat, {"most": 3}),
    ]


def told(value):
    """What can be compared of a value."""
    if inspect.isgenerator(value):
        return list(value)
    return (type(value), vars(value)) if isinstance(value, Exception) else value


class Conventions(Case):

    def test_arguments_by_name_in_any_order(self):
        for function, named in calls():
            with self.subTest(function=function.__name__):
                expected = told(function(*named.values()))
                self.assertEqual(told(function(**named)), expected)
                turned = {name: named[name] for name in reversed(named)}
                self.assertEqual(told(function(**turned)), expected)

    def test_results_by_name(self):
        web = Web(ties=[(0, 1), (1, 2)], colours=[1, 0, 1])
        self.assertEqual(web, Web([1, 0, 1], [(0, 1), (1, 2)]))
        self.assertEqual(web.neighbours(place=1), (0, 2))
        self.assertEqual(beside(other=bare([2]), one=bare([1])), bare([1, 2]))
        self.assertEqual(part(places=(0,), web=web), bare([1]))
        self.assertEqual(renamed(order=(1, 0), web=bare([3, 4])), bare([4, 3]))
        self.assertEqual(view(depth=1, place=0, web=web), (1, ((0, ()),)))
        self.assertEqual(parted_at(spot=1, other=web, place=0, one=ring(3)), 1)
        self.assertIs(same_view(depth=0, spot=1, other=web, place=0, one=ring(3)), True)
        self.assertEqual(kinds_at(depth=0, web=web), ((0, 2), (1,)))
        self.assertEqual(table(web=web), ((0, 1), (2, 0)))
        self.assertEqual(shares(web=web), (2, 1))
        self.assertIs(is_folding(value=(0, 1, 2, 0, 1, 2), other=ring(3), one=ring(6)), True)
        self.assertIs(is_folding(value=(0, 1, 2, 0, 1, 2), one=ring(3), other=ring(6)), False)
        self.assertIs(alike(other=ring(3), one=ring(6)), True)
        self.assertEqual(plain_size(other=web, one=beside(web, web)), 12)
        self.assertEqual(paper(other=bare([0, 1]), one=bare([1])), ("view", 1, 0, 0))
        self.assertIs(is_paper(value=("view", 1, 1, 0), other=web, one=bare([1])), True)
        self.assertIs(is_paper(value=("view", 1, 1, 0), one=web, other=bare([1])), False)
        self.assertEqual(next(foldings(other=ring(3), one=ring(6))), (0, 1, 2, 0, 1, 2))
        self.assertEqual(count_foldings(other=ring(6), one=ring(3)), 0)
        self.assertEqual(folding_at(number=5, other=ring(3), one=ring(6)), (2, 1, 0, 2, 1, 0))
        self.assertEqual(folding_number(value=(2, 1, 0, 2, 1, 0), other=ring(3), one=ring(6)), 5)
        self.assertEqual(turnings(web=web), ((0, 1, 2), (2, 1, 0)))
        self.assertEqual(lone(web=web), (1,))
        self.assertEqual(layered(orders=[(1, 0), (1, 0)], many=2, web=line(3)).ties, ((0, 3), (1, 2), (2, 5), (3, 4)))
        self.assertEqual(down(many=2, web=web), (0, 0, 1, 1, 2, 2))
        self.assertEqual((count_layered(many=2, web=ring(3)), count_whole(many=2, web=ring(3))), (8, 4))
        self.assertEqual(leaves(value=(0, 1, 2) * 2, other=ring(3), one=ring(6)), 2)
        self.assertEqual(unlayered(value=(0, 1), other=line(2), one=line(2)), (1, ((0,),), (0, 1)))
        self.assertEqual(web_text(web=web), "1 0 1\n0-1 1-2")
        self.assertEqual(read_web(text="1 0 1\n0-1 1-2"), web)
        self.assertEqual(view_text(value=(3, ((4, ()),))), "3(4)")
        bench = Bench(web=web)
        self.assertEqual(bench.do(deed=("colour", 0, 2)).colours, (2, 0, 1))
        self.assertEqual(bench.do_all(deeds=[("colour", 0, 3)]).colours, (3, 0, 1))
        self.assertEqual(tried(function=lambda same: same.undo(), bench=bench), ("colour", 0, 3))
        above, first, second = common(other=ring(4), one=ring(3))
        self.assertIs(is_folding(above, ring(3), first), True)
        self.assertIs(is_folding(above, ring(4), second), True)

    def test_the_first_of_several_errors_by_name_too(self):
        self.refused(BadColours, None, Web, ties=None, colours=None)
        self.refused(BadPlace, None, view, depth=None, place=None, web=line(2))
        self.refused(BadTies, None, Web, ties=None, colours=[0])
        self.refused(TooGreat, 24, common, other=ring(25), one=line(3))
        self.assertRaises(Unlike, common, other=ring(24), one=line(3))
        self.assertRaises(Apart, folding_at, number=None, other=bare([0, 0]), one=ring(25))
        self.refused(TooGreat, 24, folding_number, value=None, other=ring(25), one=ring(3))
        self.refused(BadNumber, 6, folding_at, number=6, other=ring(3), one=ring(6))
        self.refused(BadNumber, 13, layered, orders=None, many=13, web=line(2))
        self.refused(BadOrders, None, layered, orders=None, many=12, web=line(2))
        self.refused(BadFolding, None, unlayered, value=None, other=ring(3), one=ring(6))
        self.refused(BadText, 1, read_web, text="0")
        self.refused(BadDeed, 0, Bench(web=line(2)).do, deed=None)
        self.refused(BadDeed, None, Bench(web=line(2)).do_all, deeds=None)

    def test_arguments_are_not_modified(self):
        for function, named in calls():
            with self.subTest(function=function.__name__):
                before = copy.deepcopy(named)
                told(function(**named))
                self.assertEqual(named, before)
                for name in named:
                    if isinstance(named[name], Web):
                        self.assertEqual(vars(named[name]), vars(before[name]))

    def test_equal_calls_return_equal_results(self):
        for (function, named), (again, more) in zip(calls(), calls()):
            with self.subTest(function=function.__name__):
                self.assertEqual(told(function(**named)), told(again(**more)))

    def test_refused_calls_leave_webs_as_they_are(self):
        web = line(3)
        before = copy.deepcopy(vars(web))
        self.refused(BadPlace, 3, web.neighbours, 3)
        self.refused(TooGreat, 5000, view, web, 0, 21)
        self.refused(TooGreat, 2000, beside, web, line(2000))
        self.assertEqual(vars(web), before)

    def test_whether_is_told_by_true_or_false(self):
        self.assertIs(same_view(line(2), 0, line(2), 1, 5), True)
        self.assertIs(same_view(line(2), 0, line(3), 0, 5), False)
        self.assertIs(line(2) == line(2), True)
        self.assertIs(line(2) == line(3), False)
        for wanted, other in ((True, ring(6)), (False, line(6))):
            self.assertIs(alike(ring(3), other), wanted)
            self.assertIs(is_folding(other, ring(3), (0, 1, 2, 0, 1, 2)), wanted)
            self.assertIs(is_paper(other, ring(3), ("common", (0,) * 6, ring(6).ties,
                                                    (0, 1, 2, 3, 4, 5), (0, 1, 2) * 2)), wanted)


if __name__ == "__main__":
    unittest.main()
