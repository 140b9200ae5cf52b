"""Bench and tried."""

import contextlib
import random
import unittest

from tests.helpers import (HUGE, Case, all_pairs, alike_by_words, bare, circulant, cube, full, line, petersen, ring,
                           rows_of, star, wrong_values)
from viewkin.bench import Bench, tried
from viewkin.errors import BadDeed, NothingLeft, TooGreat, Unlike
from viewkin.webs import Web


def some_ties(many):
    """The first so many pairs of 400 places, in order."""
    return [tie for tie in all_pairs(400) if tie[0] < 130][:many]


class ByWords:
    """What the document says of a bench, with a list of all webs that there were."""

    def __init__(self, web):
        self.webs = [web]
        self.stand = []
        self.left = []

    def after(self, deed):
        """The web behind a deed, or the error."""
        web = self.webs[-1]
        colours, ties = list(web.colours), list(web.ties)
        word, first, last = deed
        if word == "colour":
            if not 0 <= first < len(web) or not 0 <= last <= 9 or colours[first] == last:
                return BadDeed
            colours[first] = last
        elif not 0 <= first < last < len(web) or ((first, last) in ties) != (word == "untie"):
            return BadDeed
        elif word == "tie":
            ties.append((first, last))
        else:
            ties.remove((first, last))
        return Web(colours, sorted(ties))

    def do(self, deed):
        web = self.after(deed)
        if web == BadDeed:
            return False
        self.webs.append(web)
        self.stand.append(deed)
        self.left = []
        return True

    def do_all(self, deeds):
        """The number of the first deed that is none, or None."""
        kept = list(self.webs), list(self.stand), list(self.left)
        for number, deed in enumerate(deeds):
            if not self.do(deed):
                self.webs, self.stand, self.left = kept
                return number
        return None

    def undo(self):
        self.webs.pop()
        self.left.append(self.stand.pop())
        return self.left[-1]

    def redo(self):
        left = self.left[:-1]
        deed = self.left[-1]
        self.do(deed)
        self.left = left
        return deed


class BenchCase(Case):

    def same(self, bench, web, deeds=(), left=None):
        """A bench is at this web, with these deeds; left are those that can be done again, the next one first."""
        self.assertEqual(bench.web, web)
        self.assertEqual([bench.web.neighbours(place) for place in range(len(web))],
                         [tuple(sorted(row)) for row in rows_of(web)])
        self.assertEqual(bench.deeds(), tuple(deeds))
        self.assertIsInstance(bench.deeds(), tuple)
        self.assertEqual(len(bench), len(deeds))
        if left is not None:
            with bench.trial():
                for deed in left:
                    self.assertEqual(bench.redo(), deed)
                self.assertRaises(NothingLeft, bench.redo)

    def bad(self, place, call, *args):
        self.refused(BadDeed, place, call, *args)

    def nothing(self, call):
        with self.assertRaises(NothingLeft) as caught:
            call()
        self.assertEqual((type(caught.exception), vars(caught.exception)), (NothingLeft, {}))


class Deeds(BenchCase):

    def test_a_new_bench(self):
        for web in (bare([3]), ring(5), full(245)):
            bench = Bench(web)
            self.assertEqual(bench.first, web)
            self.same(bench, web, (), ())
            self.nothing(bench.undo)
            self.nothing(bench.redo)
            self.assertIs(bench.is_alike(), True)

    def test_each_deed(self):
        bench = Bench(Web([0, 1, 2, 3], [(0, 1), (2, 3)]))
        self.assertEqual(bench.do(("tie", 1, 2)), Web([0, 1, 2, 3], [(0, 1), (1, 2), (2, 3)]))
        self.assertEqual(bench.do(("untie", 0, 1)), Web([0, 1, 2, 3], [(1, 2), (2, 3)]))
        self.assertEqual(bench.do(("colour", 2, 9)), Web([0, 1, 9, 3], [(1, 2), (2, 3)]))
        self.assertEqual(bench.do(("colour", 2, 0)), Web([0, 1, 0, 3], [(1, 2), (2, 3)]))
        self.assertEqual(bench.do(("tie", 0, 3)), Web([0, 1, 0, 3], [(0, 3), (1, 2), (2, 3)]))
        self.same(bench, Web([0, 1, 0, 3], [(0, 3), (1, 2), (2, 3)]),
                  (("tie", 1, 2), ("untie", 0, 1), ("colour", 2, 9), ("colour", 2, 0), ("tie", 0, 3)), ())
        self.assertEqual(bench.first, Web([0, 1, 2, 3], [(0, 1), (2, 3)]))

    def test_webs_stay(self):
        web = ring(4)
        bench = Bench(web)
        told = bench.do(("untie", 0, 1))
        kept = bench.web
        bench.do(("colour", 0, 5))
        bench.undo()
        bench.undo()
        self.assertEqual(web, ring(4))
        self.assertEqual(told, Web([0] * 4, [(0, 3), (1, 2), (2, 3)]))
        self.assertEqual(kept, told)
        self.assertEqual(bench.web, web)

    def test_results_are_webs(self):
        bench = Bench(line(3))
        for web in (bench.do(("tie", 0, 2)), bench.do_all([("colour", 1, 4), ("untie", 0, 1)]), bench.do_all(())):
            self.assertIsInstance(web, Web)
            self.assertEqual((type(web.colours), type(web.ties)), (tuple, tuple))
            self.assertEqual(Web(web.colours, web.ties), web)
        self.assertEqual(bench.do_all([]), bench.web)

    def test_undo_and_redo(self):
        deeds = (("tie", 0, 2), ("colour", 1, 7), ("colour", 1, 3), ("untie", 0, 1))
        bench = Bench(line(3))
        webs = [bench.web] + [bench.do(deed) for deed in deeds]
        for number in (3, 2, 1, 0):
            self.assertEqual(bench.undo(), deeds[number])
            self.same(bench, webs[number], deeds[:number], deeds[number:])
        self.nothing(bench.undo)
        for number in range(4):
            self.assertEqual(bench.redo(), deeds[number])
            self.same(bench, webs[number + 1], deeds[:number + 1], deeds[number + 1:])
        self.nothing(bench.redo)

    def test_a_new_deed_ends_what_can_be_done_again(self):
        for call in (lambda bench: bench.do(("colour", 0, 1)), lambda bench: bench.do_all([("colour", 0, 1)]),
                     lambda bench: bench.do(("tie", 0, 2))):
            bench = Bench(line(3))
            bench.do_all([("tie", 0, 2), ("untie", 0, 1)])
            bench.undo()
            bench.undo()
            call(bench)
            self.nothing(bench.redo)
            self.assertEqual(len(bench), 1)

    def test_what_does_not_end_it(self):
        bench = Bench(line(3))
        bench.do_all([("tie", 0, 2), ("untie", 0, 1), ("colour", 1, 5)])
        bench.undo()
        bench.undo()
        left = (("untie", 0, 1), ("colour", 1, 5))
        web = bench.web
        for call in (lambda: bench.do_all([]), lambda: bench.do_all(()), lambda: len(bench), bench.deeds,
                     bench.is_alike, lambda: bench.web, lambda: bench == bench, lambda: tried(bench, lambda same: None),
                     lambda: tried(bench, lambda same: same.do(("colour", 2, 2))),
                     lambda: tried(bench, lambda same: (same.redo(), same.redo())),
                     lambda: tried(bench, lambda same: same.undo())):
            call()
            self.same(bench, web, (("tie", 0, 2),), left)
        for wrong in (("tie", 0, 2), None, ("colour", 1, 0)):
            self.bad(0, bench.do, wrong)
            self.bad(1, bench.do_all, [("colour", 0, 5), wrong])
            self.bad(None, bench.do_all, None)
            self.same(bench, web, (("tie", 0, 2),), left)

    def test_do_all(self):
        bench = Bench(bare([0] * 4))
        deeds = [("tie", 0, 1), ("tie", 2, 3), ("untie", 0, 1), ("colour", 0, 3), ("tie", 0, 1), ("colour", 0, 0)]
        self.assertEqual(bench.do_all(deeds), Web([0] * 4, [(0, 1), (2, 3)]))
        self.same(bench, Web([0] * 4, [(0, 1), (2, 3)]), deeds, ())
        self.assertEqual(bench.undo(), ("colour", 0, 0))
        self.assertEqual(bench.web.colours, (3, 0, 0, 0))
        for turn in range(5):
            bench.undo()
        self.same(bench, bare([0] * 4), (), deeds)

    def test_lists_changed_afterwards(self):
        bench = Bench(bare([0] * 3))
        deeds = [("tie", 0, 1)]
        bench.do_all(deeds)
        deeds.append(("tie", 1, 2))
        deeds[0] = None
        self.assertEqual(bench.deeds(), (("tie", 0, 1),))
        self.assertEqual(deeds, [None, ("tie", 1, 2)])

    def test_a_web_as_it_was_before(self):
        bench = Bench(ring(5))
        bench.do_all([("untie", 0, 1), ("tie", 0, 1), ("colour", 2, 1), ("colour", 2, 0)])
        self.same(bench, ring(5), bench.deeds(), ())
        self.assertEqual(len(bench), 4)


class Refused(BenchCase):

    def wrong_deeds(self):
        """Values that are no deeds on a line of three places."""
        values = wrong_values() + ["tie", ["tie", 0, 2], ("tie",), ("tie", 0), ("tie", 0, 2, 0), ("tie", (0, 2)),
                                   ("Tie", 0, 2), ("", 0, 2), (None, 0, 2), (0, 0, 2), (b"tie", 0, 2), ("color", 0, 1),
                                   (("tie",), 0, 2), (["tie"], 0, 2), ({}, 0, 2), ("tie", 2, 0), ("tie", 0, 0),
                                   ("tie", 0, 1), ("tie", 1, 2), ("tie", 0, 3), ("tie", -1, 2), ("tie", 2, 3),
                                   ("untie", 0, 2), ("untie", 1, 0), ("untie", 2, 1), ("untie", 0, 0), ("untie", 0, 3),
                                   ("untie", -1, 0), ("untie", 0, True), ("untie", False, 1), ("untie", True, 2),
                                   ("tie", False, 2), ("colour", 0, 0), ("colour", 3, 1), ("colour", -1, 1),
                                   ("colour", 0, 10), ("colour", 0, -1), ("colour", True, 1), ("colour", 0, True),
                                   ("colour", False, 1), ("colour", HUGE, 1), ("colour", 0, HUGE), ("tie", 0, HUGE),
                                   {"tie": (0, 2)}, ("tie", "0", "2"), ("tie", (0,), (2,)), bare([0]), Bench(bare([0]))]
        for value in wrong_values():
            values += [("tie", value, 2), ("tie", 0, value), ("untie", value, 1), ("untie", 0, value),
                       ("colour", value, 1), ("colour", 0, value), (value, 0, 2)]
        right = [("colour", 0, 1), ("colour", 0, 2)]
        return [value for value in values if not isinstance(value, tuple) or value not in right]

    def test_any_value_that_is_no_deed(self):
        bench = Bench(line(3))
        bench.do(("colour", 1, 1))
        bench.undo()
        for value in self.wrong_deeds():
            with self.subTest(value=value):
                self.bad(0, bench.do, value)
                self.bad(0, bench.do_all, [value])
                self.bad(0, bench.do_all, (value, ("tie", 0, 2)))
                self.bad(1, bench.do_all, [("colour", 2, 5), value])
                self.bad(1, bench.do_all, (("colour", 2, 5), value, None))
        self.same(bench, line(3), (), [("colour", 1, 1)])

    def test_no_list_or_tuple(self):
        bench = Bench(line(3))
        for value in wrong_values() + ["tie", {("tie", 0, 2)}, {("tie", 0, 2): 1}, iter([("tie", 0, 2)]), bench]:
            if not isinstance(value, (list, tuple)):
                with self.subTest(value=value):
                    self.bad(None, bench.do_all, value)
        self.bad(0, bench.do_all, ("tie", 0, 2))
        self.same(bench, line(3), (), ())

    def test_the_first_deed_on_the_web_as_it_would_then_be(self):
        bench = Bench(line(3))
        for number, deeds in ((1, [("tie", 0, 2), ("tie", 0, 2)]), (1, [("untie", 0, 1), ("untie", 0, 1)]),
                              (2, [("colour", 0, 1), ("colour", 0, 2), ("colour", 0, 2), None]),
                              (2, [("tie", 0, 2), ("untie", 0, 2), ("untie", 0, 2)]),
                              (3, [("untie", 0, 1), ("tie", 0, 1), ("untie", 0, 1), ("untie", 0, 1)]),
                              (1, [("colour", 0, 1), ("colour", 0, 1)]), (0, [None, None])):
            self.bad(number, bench.do_all, deeds)
            self.bad(number, bench.do_all, tuple(deeds))
            self.same(bench, line(3), (), ())
        bench.do_all([("colour", 0, 1), ("colour", 0, 0), ("tie", 0, 2), ("untie", 0, 2), ("tie", 0, 2)])
        self.assertEqual(len(bench), 5)

    def test_30000_and_30001_ties(self):
        ties = some_ties(30001)
        bench = Bench(Web([0] * 400, ties[:30000]))
        more = ("tie",) + ties[30000]
        self.refused(TooGreat, 30000, bench.do, more)
        self.refused(TooGreat, 30000, bench.do_all, [more])
        self.refused(TooGreat, 30000, bench.do_all, [("colour", 0, 1), more, None])
        self.bad(1, bench.do_all, [("colour", 0, 1), None, more])
        self.bad(0, bench.do, ("tie", 0, 1))
        self.bad(0, bench.do, ("tie", 0, 400))
        self.same(bench, Web([0] * 400, ties[:30000]), (), ())
        self.assertEqual(bench.do_all([("untie", 0, 1), more]).ties, tuple(ties[1:]))
        self.refused(TooGreat, 30000, bench.do, ("tie", 0, 1))
        self.refused(TooGreat, 30000, bench.do_all, [("untie", 0, 2), ("tie", 0, 2), ("tie", 0, 1)])
        self.assertEqual(bench.undo(), more)
        self.assertEqual(bench.do(("tie", 0, 1)).ties, tuple(ties[:30000]))
        self.assertEqual(len(bench), 2)

    def test_30000_ties_at_once(self):
        ties = some_ties(30001)
        deeds = [("tie",) + tie for tie in ties]
        bench = Bench(bare([0] * 400))
        self.refused(TooGreat, 30000, bench.do_all, deeds)
        self.same(bench, bare([0] * 400), (), ())
        self.assertEqual(bench.do_all(deeds[:30000]), Web([0] * 400, ties[:30000]))
        self.assertEqual(len(bench), 30000)
        self.assertEqual(bench.do_all([("untie",) + tie for tie in reversed(ties[:30000])]), bare([0] * 400))
        self.assertEqual(len(bench), 60000)
        self.assertEqual(bench.undo(), ("untie", 0, 1))

    def test_nothing_left_changes_nothing(self):
        bench = Bench(line(3))
        bench.do(("tie", 0, 2))
        self.nothing(bench.redo)
        self.same(bench, full(3), (("tie", 0, 2),), ())
        bench.undo()
        self.nothing(bench.undo)
        self.same(bench, line(3), (), (("tie", 0, 2),))


class ManyRows(BenchCase):
    """Rows of all that a bench does, each step as the words tell, with wrong deeds between."""

    def some_deed(self, dice, many):
        word = dice.choice(["tie", "untie", "colour"])
        if word == "colour":
            return (word, dice.randrange(-1, many + 1), dice.choice([0, 1, 2, 10]))
        return (word, dice.randrange(-1, many), dice.randrange(many + 1))

    def step(self, dice, bench, words, depth):
        what = dice.choice(["do", "do", "do", "all", "undo", "redo", "redo", "trial"])
        many = len(words.webs[0])
        if what == "do":
            deed = self.some_deed(dice, many)
            if words.do(deed):
                self.assertEqual(bench.do(deed), words.webs[-1])
            else:
                self.bad(0, bench.do, deed)
        elif what == "all":
            deeds = [self.some_deed(dice, many) for turn in range(dice.randint(0, 3))]
            fault = words.do_all(deeds)
            if fault is None:
                self.assertEqual(bench.do_all(dice.choice([list, tuple])(deeds)), words.webs[-1])
            else:
                self.bad(fault, bench.do_all, deeds)
        elif what == "undo":
            self.assertEqual(bench.undo(), words.undo()) if words.stand else self.nothing(bench.undo)
        elif what == "redo":
            self.assertEqual(bench.redo(), words.redo()) if words.left else self.nothing(bench.redo)
        elif depth < 3:
            self.try_out(dice, bench, words, depth)

    def try_out(self, dice, bench, words, depth):
        kept = list(words.webs), list(words.stand), list(words.left)
        wanted = dice.choice([None, KeyError, BadDeed, KeyboardInterrupt])
        with contextlib.nullcontext() if wanted is None else self.assertRaises(wanted):
            with bench.trial() as same:
                self.assertIs(same, bench)
                for turn in range(dice.randint(0, 6)):
                    self.step(dice, bench, words, depth + 1)
                if wanted is not None:
                    raise wanted(3)
        words.webs, words.stand, words.left = kept

    def test_rows(self):
        for seed in range(60):
            dice = random.Random(seed)
            web = dice.choice([bare([0]), bare([0, 1, 0]), line(4), ring(5), star(3), cube()])
            bench, words = Bench(web), ByWords(web)
            for turn in range(60):
                self.step(dice, bench, words, 0)
                self.same(bench, words.webs[-1], words.stand, words.left[::-1])
                self.assertEqual(bench.first, web)

    def test_greater_webs(self):
        dice = random.Random(8)
        web = circulant(60, (1, 2, 5))
        bench = Bench(web)
        ties = {tie: True for tie in web.ties}
        deeds = []
        for turn in range(400):
            tie = dice.choice(all_pairs(60))
            deeds.append(("untie" if ties.pop(tie, False) else "tie",) + tie)
            if deeds[-1][0] == "tie":
                ties[tie] = True
        self.assertEqual(bench.do_all(deeds), Web([0] * 60, sorted(ties)))
        one_by_one = Bench(web)
        for deed in deeds:
            one_by_one.do(deed)
        self.assertTrue(bench == one_by_one)
        self.assertEqual(bench.web, one_by_one.web)
        for deed in reversed(deeds):
            self.assertEqual(bench.undo(), deed)
        self.same(bench, web, (), deeds)


class Alike(BenchCase):

    def test_by_hand(self):
        bench = Bench(ring(6))
        self.assertIs(bench.is_alike(), True)
        bench.do_all([("untie", 0, 5), ("untie", 2, 3)])
        self.assertIs(bench.is_alike(), False)
        bench.do_all([("tie", 0, 2), ("tie", 3, 5)])
        self.assertIs(bench.is_alike(), True)
        bench.do(("colour", 1, 1))
        self.assertIs(bench.is_alike(), False)
        bench.do(("colour", 1, 0))
        self.assertIs(bench.is_alike(), True)

    def test_as_the_words_tell(self):
        dice = random.Random(9)
        told = []
        for turn in range(150):
            bench = Bench(dice.choice([ring(6), star(4), petersen(), bare([0, 1, 1]), line(5)]))
            for again in range(4):
                bench.do(("colour", 0, (bench.web.colours[0] + 1) % 2))
                low, high = dice.choice(all_pairs(len(bench.web)))
                bench.do(("untie" if (low, high) in bench.web.ties else "tie", low, high))
                told.append(alike_by_words(bench.web, bench.first))
                self.assertIs(bench.is_alike(), told[-1])
        self.assertTrue(0 < told.count(True) < len(told))


class Equality(BenchCase):

    def test_benches(self):
        one, other = Bench(ring(4)), Bench(ring(4))
        self.assertIs(one == other, True)
        self.assertIs(one != other, False)
        one.do(("untie", 0, 1))
        self.assertIs(one == other, False)
        self.assertIs(one != other, True)
        other.do(("untie", 0, 1))
        self.assertIs(one == other, True)
        self.assertIs(Bench(ring(4)) == Bench(ring(5)), False)
        self.assertIs(Bench(bare([0])) == Bench(bare([1])), False)

    def test_not_by_what_can_be_done_again(self):
        one, other = Bench(ring(4)), Bench(ring(4))
        one.do(("colour", 0, 1))
        one.undo()
        self.assertIs(one == other, True)
        self.assertIs(other == one, True)
        self.assertIs(one != other, False)

    def test_not_by_the_web_as_it_is(self):
        one, other = Bench(ring(4)), Bench(ring(4))
        one.do_all([("colour", 0, 1), ("colour", 0, 0)])
        self.assertEqual(one.web, other.web)
        self.assertIs(one == other, False)
        one, other = Bench(line(3)), Bench(full(3))
        one.do(("tie", 0, 2))
        self.assertIs(one == other, False)
        one, other = Bench(line(3)), Bench(line(3))
        one.do_all([("tie", 0, 2), ("colour", 0, 1)])
        other.do_all([("colour", 0, 1), ("tie", 0, 2)])
        self.assertEqual(one.web, other.web)
        self.assertIs(one == other, False)

    def test_other_values(self):
        bench = Bench(line(2))
        for value in wrong_values() + [line(2), bench.web, bench.deeds(), (line(2), ()), "bench", Bench, bench.trial()]:
            with self.subTest(value=value):
                self.assertIs(bench == value, False)
                self.assertIs(bench != value, True)
                self.assertIs(value == bench, False)
                self.assertIs(value != bench, True)

    def test_no_other_operators(self):
        bench = Bench(line(2))
        for call in (lambda x: bench + x, lambda x: x + bench, lambda x: bench < x, lambda x: bench <= x,
                     lambda x: bench > x, lambda x: bench >= x, lambda x: bench - x, lambda x: bench * x,
                     lambda x: bench[x], lambda x: bench & x, lambda x: bench | x):
            for value in (Bench(line(2)), line(2), 0, None, (), "a"):
                self.assertRaises(TypeError, call, value)

    def test_the_web_cannot_be_set(self):
        with self.assertRaises(AttributeError):
            Bench(line(2)).web = line(3)


class Trials(BenchCase):

    def bench(self):
        """A bench with two deeds that stand and two that can be done again."""
        bench = Bench(line(3))
        bench.do_all([("tie", 0, 2), ("colour", 0, 1), ("colour", 1, 2), ("untie", 0, 1)])
        bench.undo()
        bench.undo()
        return bench

    def as_it_was(self, bench):
        self.same(bench, Web([1, 0, 0], [(0, 1), (0, 2), (1, 2)]), (("tie", 0, 2), ("colour", 0, 1)),
                  (("colour", 1, 2), ("untie", 0, 1)))

    def doings(self):
        return [lambda bench: bench.do(("colour", 2, 9)), lambda bench: bench.do_all([("untie", 0, 2)]),
                lambda bench: bench.undo(), lambda bench: (bench.undo(), bench.undo()), lambda bench: bench.redo(),
                lambda bench: (bench.redo(), bench.redo(), bench.undo(), bench.do(("colour", 2, 4))),
                lambda bench: (bench.undo(), bench.do(("colour", 2, 4)), bench.undo()), lambda bench: None]

    def test_the_block_gets_the_bench(self):
        bench = self.bench()
        with bench.trial() as same:
            self.assertIs(same, bench)
            same.do(("colour", 2, 9))
            self.assertEqual(bench.web.colours, (1, 0, 9))
            self.nothing(bench.redo)
        self.as_it_was(bench)

    def test_all_doings(self):
        bench = self.bench()
        for doing in self.doings():
            with bench.trial():
                doing(bench)
            self.as_it_was(bench)
            tried(bench, doing)
            self.as_it_was(bench)

    def test_an_exception_passes(self):
        bench = self.bench()
        for error in (KeyError("k"), ValueError(), BadDeed(3), TooGreat(5), Unlike(), KeyboardInterrupt(),
                      SystemExit(2), GeneratorExit(), StopIteration(4), MemoryError(), AssertionError()):
            for doing in self.doings():
                with self.assertRaises(type(error)) as caught:
                    with bench.trial():
                        doing(bench)
                        raise error
                self.assertIs(caught.exception, error)
                self.as_it_was(bench)

                def fail(same):
                    doing(same)
                    raise error

                with self.assertRaises(type(error)) as caught:
                    tried(bench, fail)
                self.assertIs(caught.exception, error)
                self.as_it_was(bench)

    def test_errors_of_the_bench_itself(self):
        bench = self.bench()
        with self.assertRaises(BadDeed):
            with bench.trial() as same:
                same.undo()
                same.do(None)
        self.as_it_was(bench)
        with self.assertRaises(NothingLeft):
            tried(bench, lambda same: [same.redo() for turn in range(3)])
        self.as_it_was(bench)

    def test_a_trial_of_a_trial(self):
        bench = self.bench()
        with bench.trial() as one:
            one.undo()
            with one.trial() as other:
                self.assertIs(other, bench)
                other.do(("colour", 2, 7))
                with other.trial():
                    bench.undo()
                    bench.undo()
                self.same(bench, Web([0, 0, 7], [(0, 1), (0, 2), (1, 2)]), (("tie", 0, 2), ("colour", 2, 7)), ())
            self.same(bench, full(3), (("tie", 0, 2),), (("colour", 0, 1), ("colour", 1, 2), ("untie", 0, 1)))
        self.as_it_was(bench)

    def test_an_exception_through_two_blocks(self):
        bench = self.bench()
        with self.assertRaises(KeyError):
            with bench.trial():
                bench.redo()
                with bench.trial():
                    bench.redo()
                    raise KeyError(1)
        self.as_it_was(bench)

    def test_leaving_a_block_early(self):
        bench = self.bench()
        for turn in range(3):
            with bench.trial():
                bench.do(("colour", 2, turn + 1))
                continue
        self.as_it_was(bench)

        def returns():
            with bench.trial() as same:
                return same.do(("colour", 2, 5))

        self.assertEqual(returns().colours, (1, 0, 5))
        self.as_it_was(bench)

    def test_what_it_was_when_the_block_began(self):
        bench = Bench(line(3))
        trial = bench.trial()
        bench.do(("tie", 0, 2))
        with trial:
            bench.undo()
        self.same(bench, full(3), (("tie", 0, 2),), ())

    def test_a_trial_taken_twice(self):
        bench = Bench(line(3))
        trial = bench.trial()
        for turn in range(2):
            with trial:
                bench.do(("colour", 0, 5))
            bench.do(("colour", 1, turn + 1))
        self.same(bench, Web([0, 2, 0], [(0, 1), (1, 2)]), (("colour", 1, 1), ("colour", 1, 2)), ())
        with trial:
            bench.do(("colour", 0, 5))
            with trial:
                bench.do(("colour", 0, 6))
            self.assertEqual(bench.web.colours, (5, 2, 0))
        self.assertEqual(bench.web.colours, (0, 2, 0))

    def test_two_benches(self):
        one, other = self.bench(), Bench(ring(3))
        with one.trial() as first, other.trial() as second:
            first.undo()
            second.do(("colour", 0, 1))
        self.as_it_was(one)
        self.same(other, ring(3), (), ())

    def test_what_tried_returns(self):
        bench = self.bench()
        value = [1, 2]
        self.assertIs(tried(bench, lambda same: value), value)
        self.assertIs(tried(bench, lambda same: same), bench)
        self.assertIsNone(tried(bench, lambda same: None))
        self.assertEqual(tried(bench, lambda same: same.do(("untie", 0, 1))).ties, ((0, 2), (1, 2)))
        self.assertEqual(tried(bench, len), 2)
        self.assertEqual(tried(bench, Bench.undo), ("colour", 0, 1))
        self.assertEqual(tried(bench, lambda same: tried(same, lambda again: again.redo())), ("colour", 1, 2))
        self.as_it_was(bench)


if __name__ == "__main__":
    unittest.main()
