"""What several tests share: webs, wrong values, and the document's terms word by word."""

import fractions
import itertools
import math
import random
import unittest

from viewkin.webs import Web

HUGE = 10 ** 999


def wrong_values():
    """Values of all kinds that are no place and no depth of anything."""
    return [None, True, False, -1, -HUGE, "", "0", "a", b"0", [], [0], (), (0,), {}, {0: 0}, {0},
            object(), Web([0], []), len, int, ValueError("0"), range(3)]


class Case(unittest.TestCase):
    """A test that looks at the fields of errors too."""

    def refused(self, error, value, call, /, *args, **more):
        """The call raises just this error, its field being just this value."""
        with self.assertRaises(Exception) as caught:
            call(*args, **more)
        self.assertEqual(type(caught.exception), error, repr(caught.exception))
        fields = list(vars(caught.exception).values())
        self.assertEqual(len(fields), 1)
        if isinstance(value, (list, tuple, dict, int)) and not isinstance(value, bool):
            self.assertEqual(fields[0], value)
            self.assertEqual(type(fields[0]), type(value))
        else:
            self.assertIs(fields[0], value)


def line(many, colours=None):
    return Web(colours or [0] * many, [(k, k + 1) for k in range(many - 1)])


def ring(many, colours=None):
    ties = [(k, k + 1) for k in range(many - 1)] + [(0, many - 1)]
    return Web(colours or [0] * many, sorted(ties))


def star(leaves):
    return Web([0] * (leaves + 1), [(0, k) for k in range(1, leaves + 1)])


def bare(colours):
    return Web(colours, [])


def circulant(many, steps):
    """A ring of places, each tied to those that are so many steps away."""
    return Web([0] * many, sorted({tuple(sorted((k, (k + step) % many))) for k in range(many)
                                   for step in steps}))


def cube():
    return Web([0] * 8, [(a, b) for a, b in all_pairs(8) if bin(a ^ b).count("1") == 1])


def petersen():
    """Ten places, three ties at each, no ring shorter than five."""
    ties = [(k, (k + 1) % 5) for k in range(5)] + [(5 + k, 5 + (k + 2) % 5) for k in range(5)]
    return Web([0] * 10, sorted([tuple(sorted(tie)) for tie in ties] + [(k, k + 5) for k in range(5)]))


def prism():
    """Ten places, three ties at each: two rings of five, one above the other."""
    ties = [(k, (k + 1) % 5) for k in range(5)] + [(5 + k, 5 + (k + 1) % 5) for k in range(5)]
    return Web([0] * 10, sorted([tuple(sorted(tie)) for tie in ties] + [(k, k + 5) for k in range(5)]))


def all_pairs(many):
    return list(itertools.combinations(range(many), 2))


def full(many):
    return Web([0] * many, all_pairs(many))


def every_web(many, colours):
    """Every web of so many places with so many colours."""
    for painted in itertools.product(range(colours), repeat=many):
        for chosen in itertools.product([False, True], repeat=len(all_pairs(many))):
            yield Web(painted, [tie for tie, kept in zip(all_pairs(many), chosen) if kept])


def some_webs(seed, count, most, colours):
    """Webs that look like chance, the same ones each time."""
    dice = random.Random(seed)
    for turn in range(count):
        many = dice.randint(1, most)
        share = dice.choice([0.05, 0.1, 0.2, 0.5])
        ties = [tie for tie in all_pairs(many) if dice.random() < share]
        yield Web([dice.randrange(colours) for place in range(many)], ties)


def cover(web, many, seed):
    """A web that folds onto a web: place p * many + t goes to place p."""
    dice = random.Random(seed)
    ties = []
    for low, high in web.ties:
        order = list(range(many))
        dice.shuffle(order)
        ties.extend((low * many + t, high * many + order[t]) for t in range(many))
    return Web([colour for colour in web.colours for t in range(many)], sorted(ties))


def neighbours_of(web, place):
    """Read off the ties, without the methods of the web."""
    return [sum(tie) - place for tie in web.ties if place in tie]


def rows_of(web):
    """For each place a list of its neighbours, read off the ties."""
    rows = [[] for place in range(len(web))]
    for low, high in web.ties:
        rows[low].append(high)
        rows[high].append(low)
    return rows


def view_by_words(web, place, depth):
    """[11], word by word."""
    if depth == 0:
        return (web.colours[place], ())
    near = [view_by_words(web, spot, depth - 1) for spot in neighbours_of(web, place)]
    return (web.colours[place], tuple(sorted(near)))


def levels_of_views(webs):
    """For each depth, a number for each place of some webs that stands for its view.

    Numbers are alike where the views are, as each view is looked up whole.
    """
    known = {}
    numbers = [[known.setdefault((colour, ()), len(known)) for colour in web.colours] for web in webs]
    near = [rows_of(web) for web in webs]
    while True:
        yield numbers
        known = {}
        numbers = [[known.setdefault((web.colours[place], tuple(sorted(old[spot] for spot in rows[place]))),
                                     len(known))
                    for place in range(len(web))] for web, old, rows in zip(webs, numbers, near)]


def numbered_views(webs, depth):
    """The numbers of the views to each depth up to this one."""
    return list(itertools.islice(levels_of_views(webs), depth + 1))


def grouped(names):
    """An ascending tuple of the places with the same name."""
    found = {}
    for place, name in enumerate(names):
        found.setdefault(name, []).append(place)
    return tuple(sorted(tuple(places) for places in found.values()))


def names_by_words(*webs):
    """For each web a list with a number for each place, alike where the kinds are ([20])."""
    told = 0
    for numbers in levels_of_views(webs):
        if len(set().union(*numbers)) == told:
            return numbers
        told = len(set().union(*numbers))


def table_by_words(web, names):
    """A dict: for each kind how many neighbours of which kinds each of its places has."""
    found = {}
    for place, spots in enumerate(rows_of(web)):
        near = [names[spot] for spot in spots]
        row = {name: near.count(name) for name in near}
        if found.setdefault(names[place], row) != row:
            raise AssertionError("[21] does not hold")
    return found


def joined_by_words(found, name):
    """The kinds of a table that are joined with a kind, and itself."""
    met = {name}
    while True:
        more = met | {near for one in met for near in found[one]}
        if more == met:
            return met
        met = more


def shares_by_words(found):
    """[15]: a dict with the share of each kind of a table, from one kind to the next one."""
    shares = {}
    for name in found:
        if name in shares:
            continue
        told, waiting = {name: fractions.Fraction(1)}, [name]
        for one in waiting:
            for near in found[one]:
                if near not in told:
                    told[near] = told[one] * found[one][near] / found[near][one]
                    waiting.append(near)
        wide = math.lcm(*[share.denominator for share in told.values()])
        divisor = math.gcd(*[int(share * wide) for share in told.values()])
        shares.update({one: int(share * wide) // divisor for one, share in told.items()})
    return shares


def plain_size_by_words(one, other):
    """[16] and [17]."""
    here, there = names_by_words(one, other)
    found = table_by_words(one, here)
    shares = shares_by_words(found)
    size = 0
    for name in found:
        joined = joined_by_words(found, name)
        great = math.lcm(*[shares[kind] for kind in joined],
                         *[shares[kind] * many for kind in joined for many in found[kind].values()])
        size += here.count(name) * there.count(name) * great // shares[name]
    return size


def alike_by_words(one, other):
    """[13]."""
    here, there = names_by_words(one, other)
    return all(name in there for name in here) and all(name in here for name in there)


def folding_by_words(one, other, value):
    """[14], of a tuple with an integer from 0 on for each place of one."""
    here, there = rows_of(one), rows_of(other)
    for place, spot in enumerate(value):
        if spot >= len(other) or one.colours[place] != other.colours[spot]:
            return False
        if sorted(value[near] for near in here[place]) != sorted(there[spot]):
            return False
    return all(spot in value for spot in range(len(other)))


def whole_by_words(web):
    """Whether a web hangs together, read off its ties."""
    rows = rows_of(web)
    met, waiting = {0}, [0]
    for place in waiting:
        more = [near for near in rows[place] if near not in met]
        met.update(more)
        waiting.extend(more)
    return len(met) == len(web)


def foldings_by_words(one, other):
    """An ascending list of all foldings of a web that hangs together onto another one, by [14].

    Places get their spots one after the other, each beside one that has one already.
    """
    rows, spots = rows_of(one), rows_of(other)
    order = [0]
    for place in order:
        order.extend(near for near in rows[place] if near not in order)
    found, value = [], {}

    def fits(place):
        for centre in [place] + rows[place]:
            met = [value[near] for near in rows[centre] if near in value]
            if len(set(met)) < len(met):
                return False
            if centre in value and not set(met) <= set(spots[value[centre]]):
                return False
        return True

    def go_on(at):
        if at == len(order):
            told = tuple(value[place] for place in range(len(one)))
            if folding_by_words(one, other, told):
                found.append(told)
            return
        for spot in range(len(other)):
            if one.colours[order[at]] == other.colours[spot]:
                value[order[at]] = spot
                if fits(order[at]):
                    go_on(at + 1)
        value.pop(order[at], None)

    go_on(0)
    return sorted(found)


def shuffled(web, seed):
    """A web under other names."""
    dice = random.Random(seed)
    order = list(range(len(web)))
    dice.shuffle(order)
    return Web([web.colours[order.index(place)] for place in range(len(web))],
               sorted(tuple(sorted((order[low], order[high]))) for low, high in web.ties))


def hub(*rings):
    """A place with a colour of its own, tied to each place of some rings with unlike colours."""
    colours, ties = [0], []
    for colour, many in enumerate(rings, 1):
        first = len(colours)
        spots = list(range(first, first + many))
        ties += [(0, spot) for spot in spots]
        ties += [tuple(sorted((spots[k - 1], spots[k]))) for k in range(many)]
        colours += [colour] * many
    return Web(colours, sorted(ties))


def without_rings(*rings):
    """All pairs of places are tied but those that are neighbours on some rings."""
    left, start = [], 0
    for many in rings:
        left += [tuple(sorted((start + k, start + (k + 1) % many))) for k in range(many)]
        start += many
    return Web([0] * start, [tie for tie in all_pairs(start) if tie not in left])
