"""All foldings of a web onto another one, both of which hang together."""

from viewkin.errors import TooGreat
from viewkin.groups import Group, after, orbit_of
from viewkin.searches import Search, spots_of


class Listing:
    """A search for all foldings of one onto other, as long as there are no more than most.

    Turnings of other lead a folding to as many foldings as there are turnings, as each spot
    is met. So it is enough to find one of those that they lead to each other.
    """

    def __init__(self, one, other, most):
        self.search = Search(one, other)
        self.group = Group(other)
        self.most = most
        self.turns = []
        self.found = []

    def add_folding(self, folding):
        """Takes a folding to which turnings lead none that was found before."""
        if len(self.found) == 0:
            self.turns = self.group.all_moves(self.most)
        self.found.append(folding)
        if self.turns is None or len(self.turns) * len(self.found) > self.most:
            raise TooGreat(self.most)

    def gather(self, options, met):
        """Finds foldings within settled options, of those that turnings lead to each other but one.

        met are the spots where a place was put; turnings that keep them keep the options too.
        """
        search = self.search
        place = search.open_place(options)
        if place is None:
            self.add_folding(search.any_folding(options))
            return
        left = spots_of(options[place])
        while left:
            further = search.put(options, place, left[0])
            if further is not None:
                self.gather(further, met | 1 << left[0])
            # If each spot is met once, turnings lead one folding to all others.
            if len(left) == 1 or (search.many == 1 and len(self.found) > 0):
                return
            orbit = orbit_of(left[0], self.group.moves_keeping(met), self.group.many)
            left = [spot for spot in left if spot not in orbit]

    def whole(self):
        """An ascending list of all foldings."""
        options = list(self.search.start)
        if 0 not in options and self.search.settle(options, list(self.search.places)):
            self.gather(options, 0)
        return sorted([after(turn, folding) for turn in self.turns for folding in self.found])


def all_foldings(one, other, most):
    """An ascending list of all foldings of one onto other; TooGreat if there are more than most."""
    if len(one) % len(other) > 0:
        return []
    return Listing(one, other, most).whole()
