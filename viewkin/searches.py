"""Where the places of a web may go by a folding, found by leaving out where they cannot.

The spots where a place may go are held in one integer, its options: the bit 1 << spot
stands for each of them.
"""

from viewkin.sights import whole_sight


def mask_of(spots):
    """The integer that stands for some spots, which are all different."""
    return sum([1 << spot for spot in spots])


def spots_of(mask):
    """The spots for which an integer stands, in ascending order."""
    return [spot for spot in range(mask.bit_length()) if mask >> spot & 1 == 1]


def is_single(mask):
    """Whether an integer that is not 0 stands for one spot alone."""
    return mask & (mask - 1) == 0


def options_of_kinds(one, other):
    """For each place of one the spots of other that are of its kind."""
    names = whole_sight(one, other).names
    found = {}
    for spot, name in enumerate(names[len(one):]):
        found[name] = found.get(name, 0) | 1 << spot
    return [found.get(name, 0) for name in names[:len(one)]]


def parted_places(rows, place, bijective):
    """The places without a tie to a place that cannot go where it goes.

    If each spot is met once, these are all; else those that have a neighbour in common with
    the place, as neighbours go to neighbours one to one.
    """
    near = {spot: True for spot in rows[place]}
    beyond = {far: True for spot in near for far in rows[spot]}
    return [spot for spot in range(len(rows))
            if spot != place and spot not in near and (bijective or spot in beyond)]


class Search:
    """A search for foldings of one onto other, which both hang together.

    many is how many places go to each spot, by [51].
    """

    def __init__(self, one, other):
        self.rows = one.rows
        self.places = list(range(len(one)))
        self.many = len(one) // len(other)
        self.spots = (1 << len(other)) - 1
        self.near = [mask_of(row) for row in other.rows]
        self.parted = [parted_places(one.rows, place, self.many == 1) for place in self.places]
        self.start = options_of_kinds(one, other)
        self.reaches = {}

    def reach(self, mask):
        """The neighbours of some spots."""
        if mask not in self.reaches:
            found = 0
            for spot in spots_of(mask):
                found = found | self.near[spot]
            self.reaches[mask] = found
        return self.reaches[mask]

    def narrow(self, options, place, mask, waiting):
        """Keeps of the options of a place those in a mask, and tells whether there are any."""
        left = options[place] & mask
        if left != options[place]:
            options[place] = left
            waiting.append(place)
        return left != 0

    def spread(self, options, place, waiting):
        """Keeps what the options of a place leave to others; whether each of them has any."""
        mask = options[place]
        reach = self.reach(mask)
        for near in self.rows[place]:
            if not self.narrow(options, near, reach, waiting):
                return False
        if not is_single(mask):
            return True
        # If each spot is met once, places without a tie do not go to neighbours either.
        barred = mask | reach if self.many == 1 else mask
        for far in self.parted[place]:
            if not self.narrow(options, far, ~barred, waiting):
                return False
        return True

    def share(self, options, waiting):
        """Keeps what can be if just so many places go to each spot; whether that can be.

        levels[k] are the spots to which at least k places may go. All foldings are found
        without this too, but what cannot be is left much sooner.
        """
        levels = [self.spots] + [0] * (self.many + 1)
        for mask in options:
            for level in range(self.many + 1, 0, -1):
                levels[level] = levels[level] | levels[level - 1] & mask
        if levels[self.many] != self.spots:
            return False
        scarce = self.spots & ~levels[self.many + 1]
        for place in self.places:
            wanted = options[place] & scarce
            if wanted != 0:
                if not is_single(wanted) or not self.narrow(options, place, wanted, waiting):
                    return False
        return True

    def settle(self, options, waiting):
        """Keeps what can be once some places have new options; whether each place has any."""
        while waiting:
            while waiting:
                if not self.spread(options, waiting.pop(), waiting):
                    return False
            if not self.share(options, waiting):
                return False
        return True

    def open_place(self, options):
        """A place with two options or more, and as few as can be; None if there is none."""
        found = [place for place in self.places if not is_single(options[place])]
        return min(found, key=lambda at: f"{options[at]:b}".count("1"), default=None)

    def put(self, options, place, spot):
        """What is left of settled options if a place goes to a spot; None if that cannot be."""
        further = list(options)
        further[place] = 1 << spot
        return further if self.settle(further, [place]) else None

    def folding_by(self, options, place, spot):
        """A folding within settled options that leads a place to a spot, or None."""
        further = self.put(options, place, spot)
        return None if further is None else self.any_folding(further)

    def any_folding(self, options):
        """A folding within settled options, or None."""
        place = self.open_place(options)
        if place is None:
            return tuple([mask.bit_length() - 1 for mask in options])
        for spot in spots_of(options[place]):
            found = self.folding_by(options, place, spot)
            if found is not None:
                return found
        return None
