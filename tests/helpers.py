"""What several tests share: webs, wrong values, and the document's terms word by word."""

import itertools
import random
import unittest

from viewkin.webs import Web

HUGE = 10 ** 999


def wrong_values():
    """Values of all kinds that are no place and no depth of anything."""
    return [None, True, False, -1, -HUGE, "", "0", "a", b"0", [], [0], (), (0,), {}, {0: 0}, {0},
            object(), Web([0], []), len, int, ValueError("0"), range(3)]


class Case(unittest.TestCase):
    """A test that looks at the fields of errors too."""

    def refused(self, error, value, call, *args, **more):
        """The call raises just this error, its field being just this value."""
        with self.assertRaises(Exception) as caught:
            call(*args, **more)
        self.assertEqual(type(caught.exception), error, repr(caught.exception))
        fields = list(vars(caught.exception).values())
        self.assertEqual(len(fields), 1)
        if isinstance(value, (list, tuple, dict, int)) and not isinstance(value, bool):
            self.assertEqual(fields[0], value)
            self.assertEqual(type(fields[0]), type(value))
        else:
            self.assertIs(fields[0], value)


def line(many, colours=None):
    return Web(colours or [0] * many, [(k, k + 1) for k in range(many - 1)])


def ring(many, colours=None):
    ties = [(k, k + 1) for k in range(many - 1)] + [(0, many - 1)]
    return Web(colours or [0] * many, sorted(ties))


def star(leaves):
    return Web([0] * (leaves + 1), [(0, k) for k in range(1, leaves + 1)])


def bare(colours):
    return Web(colours, [])


def all_pairs(many):
    return list(itertools.combinations(range(many), 2))


def full(many):
    return Web([0] * many, all_pairs(many))


def every_web(many, colours):
    """Every web of so many places with so many colours."""
    for painted in itertools.product(range(colours), repeat=many):
        for chosen in itertools.product([False, True], repeat=len(all_pairs(many))):
            yield Web(painted, [tie for tie, kept in zip(all_pairs(many), chosen) if kept])


def some_webs(seed, count, most, colours):
    """Webs that look like chance, the same ones each time."""
    dice = random.Random(seed)
    for turn in range(count):
        many = dice.randint(1, most)
        share = dice.choice([0.05, 0.1, 0.2, 0.5])
        ties = [tie for tie in all_pairs(many) if dice.random() < share]
        yield Web([dice.randrange(colours) for place in range(many)], ties)


def cover(web, many, seed):
    """A web that folds onto a web: place p * many + t goes to place p."""
    dice = random.Random(seed)
    ties = []
    for low, high in web.ties:
        order = list(range(many))
        dice.shuffle(order)
        ties.extend((low * many + t, high * many + order[t]) for t in range(many))
    return Web([colour for colour in web.colours for t in range(many)], sorted(ties))


def neighbours_of(web, place):
    """Read off the ties, without the methods of the web."""
    return [sum(tie) - place for tie in web.ties if place in tie]


def view_by_words(web, place, depth):
    """[11], word by word."""
    if depth == 0:
        return (web.colours[place], ())
    near = [view_by_words(web, spot, depth - 1) for spot in neighbours_of(web, place)]
    return (web.colours[place], tuple(sorted(near)))


def numbered_views(webs, depth):
    """For each depth up to this one, a number for each place of some webs that stands for its view.

    Numbers are alike where the views are, as each view is looked up whole.
    """
    known = {}
    numbers = [[known.setdefault((colour, ()), len(known)) for colour in web.colours] for web in webs]
    near = [[neighbours_of(web, place) for place in range(len(web))] for web in webs]
    levels = [numbers]
    for step in range(depth):
        known = {}
        numbers = [[known.setdefault((web.colours[place], tuple(sorted(old[spot] for spot in rows[place]))),
                                     len(known))
                    for place in range(len(web))] for web, old, rows in zip(webs, numbers, near)]
        levels.append(numbers)
    return levels


def grouped(names):
    """An ascending tuple of the places with the same name."""
    found = {}
    for place, name in enumerate(names):
        found.setdefault(name, []).append(place)
    return tuple(sorted(tuple(places) for places in found.values()))
