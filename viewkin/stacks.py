"""A web with the plain size of two webs that look alike, and its foldings onto both."""

from viewkin.sights import whole_sight
from viewkin.tables import great_numbers, numbered, shares_of, tallies
from viewkin.webs import Web


def heights_of(groups, found):
    """For each kind with these tallies, how many places stand over a pair of places of it."""
    told = shares_of(groups, found)
    return [great // share for great, share in zip(great_numbers(found, told), told)]


def ranks_of(rows, names):
    """For each place and neighbour, how many neighbours of this one's kind are ahead of it."""
    ranks = {}
    for place, row in enumerate(rows):
        counts = {}
        for near in row:
            rank = counts.get(names[near], 0)
            ranks[(place, near)] = rank
            counts[names[near]] = rank + 1
    return ranks


class Stacks:
    """The places that stand over each pair: a place of one, and one of its kind of other.

    The places of other are numbered on behind those of one. Over a pair there are as many
    places as its kind has height; starts tells the first of them, and below tells the pair
    that is below each place.
    """

    def __init__(self, one, other):
        sight = whole_sight(one, other)
        groups = sight.bundled()
        self.rows = sight.rows
        self.names = numbered(groups)
        self.found = tallies(groups, sight.rows)
        self.heights = heights_of(groups, self.found)
        self.ranks = ranks_of(sight.rows, self.names)
        self.starts = {}
        self.below = []
        for place in range(len(one)):
            for spot in range(len(one), len(one) + len(other)):
                if self.names[place] == self.names[spot]:
                    self.starts[(place, spot)] = len(self.below)
                    self.below += [(place, spot)] * self.heights[self.names[place]]

    def facing(self, pair, further):
        """The places over a pair that get a tie to one over a further pair, of neighbours.

        The two places of the pair have equally many neighbours of the kind of the further
        pair. The t-th place over the pair takes these two by two: the n-th one of the first
        with the (n + t)-th one of the second, as in a ring. So it goes to each of them once;
        and each two are taken by as many places as from the other side, by [15].
        """
        name = self.names[pair[0]]
        many = self.found[name][self.names[further[0]]]
        turn = self.ranks[(pair[1], further[1])] - self.ranks[(pair[0], further[0])]
        start = self.starts[pair]
        return [start + step for step in range(turn % many, self.heights[name], many)]

    def ties_over(self, pair):
        """The ties from the places over a pair to those over pairs of neighbours that are behind it."""
        found = []
        for high in self.rows[pair[0]]:
            for near in self.rows[pair[1]]:
                if high > pair[0] and (high, near) in self.starts:
                    further = (high, near)
                    found += list(zip(self.facing(pair, further), self.facing(further, pair)))
        return found


def plain_web(one, other):
    """A web with the plain size of two webs that look alike, and its foldings onto both."""
    stacks = Stacks(one, other)
    ties = []
    for pair in stacks.starts:
        ties += stacks.ties_over(pair)
    colours = [one.colours[place] for place, spot in stacks.below]
    first = tuple([place for place, spot in stacks.below])
    second = tuple([spot - len(one) for place, spot in stacks.below])
    return Web(colours, sorted(ties)), first, second
