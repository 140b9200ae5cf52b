"""Conventions [0] to [4], for every function, method and class that has landed."""

import copy
import unittest

from tests.helpers import Case, bare, line, ring, star
from viewkin.errors import BadColours, BadNumber, BadPlace, BadTies, TooGreat
from viewkin.views import depth_of, kinds, kinds_at, parted_at, same_view, view
from viewkin.webs import Web, beside, part, pieces, renamed


def calls():
    """Each function with arguments by their names."""
    one, other = line(4, [0, 1, 1, 2]), star(3)
    return [
        (pieces, {"web": one}),
        (beside, {"one": one, "other": other}),
        (part, {"web": one, "places": [1, 2]}),
        (renamed, {"web": one, "order": (2, 0, 3, 1)}),
        (view, {"web": one, "place": 1, "depth": 2}),
        (same_view, {"one": one, "place": 1, "other": other, "spot": 2, "depth": 3}),
        (parted_at, {"one": other, "place": 0, "other": other, "spot": 2}),
        (kinds, {"web": other}),
        (kinds_at, {"web": one, "depth": 1}),
        (depth_of, {"web": one}),
        (one.neighbours, {"place": 2}),
        (Web, {"colours": [1, 0], "ties": [(0, 1)]}),
        (BadNumber, {"value": 3}),
        (BadColours, {"place": 3}),
        (TooGreat, {"most": 3}),
    ]


def told(value):
    """What can be compared of a value."""
    return (type(value), vars(value)) if isinstance(value, Exception) else value


class Conventions(Case):

    def test_arguments_by_name_in_any_order(self):
        for function, named in calls():
            with self.subTest(function=function.__name__):
                expected = told(function(*named.values()))
                self.assertEqual(told(function(**named)), expected)
                turned = {name: named[name] for name in reversed(named)}
                self.assertEqual(told(function(**turned)), expected)

    def test_results_by_name(self):
        web = Web(ties=[(0, 1), (1, 2)], colours=[1, 0, 1])
        self.assertEqual(web, Web([1, 0, 1], [(0, 1), (1, 2)]))
        self.assertEqual(web.neighbours(place=1), (0, 2))
        self.assertEqual(beside(other=bare([2]), one=bare([1])), bare([1, 2]))
        self.assertEqual(part(places=(0,), web=web), bare([1]))
        self.assertEqual(renamed(order=(1, 0), web=bare([3, 4])), bare([4, 3]))
        self.assertEqual(view(depth=1, place=0, web=web), (1, ((0, ()),)))
        self.assertEqual(parted_at(spot=1, other=web, place=0, one=ring(3)), 1)
        self.assertIs(same_view(depth=0, spot=1, other=web, place=0, one=ring(3)), True)
        self.assertEqual(kinds_at(depth=0, web=web), ((0, 2), (1,)))

    def test_the_first_of_several_errors_by_name_too(self):
        self.refused(BadColours, None, Web, ties=None, colours=None)
        self.refused(BadPlace, None, view, depth=None, place=None, web=line(2))
        self.refused(BadTies, None, Web, ties=None, colours=[0])

    def test_arguments_are_not_modified(self):
        for function, named in calls():
            with self.subTest(function=function.__name__):
                before = copy.deepcopy(named)
                function(**named)
                self.assertEqual(named, before)
                for name in named:
                    if isinstance(named[name], Web):
                        self.assertEqual(vars(named[name]), vars(before[name]))

    def test_equal_calls_return_equal_results(self):
        for (function, named), (again, more) in zip(calls(), calls()):
            with self.subTest(function=function.__name__):
                self.assertEqual(told(function(**named)), told(again(**more)))

    def test_refused_calls_leave_webs_as_they_are(self):
        web = line(3)
        before = copy.deepcopy(vars(web))
        self.refused(BadPlace, 3, web.neighbours, 3)
        self.refused(TooGreat, 5000, view, web, 0, 21)
        self.refused(TooGreat, 2000, beside, web, line(2000))
        self.assertEqual(vars(web), before)

    def test_whether_is_told_by_true_or_false(self):
        self.assertIs(same_view(line(2), 0, line(2), 1, 5), True)
        self.assertIs(same_view(line(2), 0, line(3), 0, 5), False)
        self.assertIs(line(2) == line(2), True)
        self.assertIs(line(2) == line(3), False)


if __name__ == "__main__":
    unittest.main()
