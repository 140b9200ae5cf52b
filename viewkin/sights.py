"""Places told apart by their views, one step further at a time."""


class Sight:
    """The places of one web or of several, in groups that have the same view to a depth.

    The depth grows from 0 on, as long as a greater one tells more places apart.
    """

    def __init__(self, colours, rows):
        self.rows = rows
        self.depth = 0
        self.groups = []
        self.names = [0] * len(colours)
        self.fresh = []
        bundles = {}
        for place, colour in enumerate(colours):
            bundles.setdefault(colour, []).append(place)
        for colour in bundles:
            self.name_anew(bundles[colour])

    def name_anew(self, bundle):
        """Makes some places a group with a name of its own."""
        name = len(self.groups)
        self.groups.append({place: True for place in bundle})
        for place in bundle:
            self.names[place] = name
        self.fresh.extend(bundle)

    def fresh_names(self):
        """For each place that has neighbours in groups with a fresh name, a list of these names."""
        found = {}
        for place in self.fresh:
            for spot in self.rows[place]:
                found.setdefault(spot, []).append(self.names[place])
        return found

    def deepen(self):
        """Makes the depth greater by one if that tells more places apart, and tells whether it does.

        Only neighbours in groups with a fresh name need to be counted: the places of a group
        have equally many neighbours in each group as it was before, and just one part of
        this, a greatest one, kept its name. So a place gets a fresh name but a few times.
        """
        found = self.fresh_names()
        parts = {}
        for place in found:
            bundles = parts.setdefault(self.names[place], {})
            bundles.setdefault(tuple(sorted(found[place])), []).append(place)
        self.fresh = []
        for name in parts:
            self.part_group(name, list(parts[name].values()))
        if len(self.fresh) == 0:
            return False
        self.depth += 1
        return True

    def part_group(self, name, bundles):
        """Parts bundles of places from a group, from each other and from the rest of the group."""
        group = self.groups[name]
        leavers = leaving(group, bundles)
        for bundle in leavers:
            for place in bundle:
                del group[place]
            self.name_anew(bundle)

    def look(self, depth):
        """Goes on to a depth, or to one from which on no greater one tells more places apart."""
        while self.depth < depth and self.deepen():
            pass

    def same(self, place, spot):
        """Whether two places have the same view to the depth that has been reached."""
        return self.names[place] == self.names[spot]

    def among(self, place, spots):
        """Those of some places that have the same view as a place, to the depth that has been reached."""
        name = self.names[place]
        return [spot for spot in spots if self.names[spot] == name]

    def bundled(self):
        """An ascending tuple of the groups, each an ascending tuple of places."""
        found = {}
        for place, name in enumerate(self.names):
            found.setdefault(name, []).append(place)
        return tuple([tuple(found[name]) for name in found])


def leaving(group, bundles):
    """All parts of a group but a greatest one; its parts are the bundles, and what is in none."""
    ascending = sorted(bundles, key=len)
    told = {place: True for bundle in bundles for place in bundle}
    if len(group) - len(told) >= len(ascending[-1]):
        return ascending
    rest = [place for place in group if place not in told]
    return ascending[:-1] + ([rest] if rest else [])


def sight_of(web):
    """The places of a web, seen to the depth 0."""
    return Sight(web.colours, web.rows)


def sight_of_both(one, other):
    """The places of two webs, those of other numbered on behind those of one."""
    many = len(one)
    behind = tuple([tuple([spot + many for spot in row]) for row in other.rows])
    return Sight(one.colours + other.colours, one.rows + behind)


def whole_sight(one, other):
    """The places of two webs by their kinds, those of other numbered on behind those of one."""
    sight = sight_of_both(one, other)
    sight.look(len(one) + len(other))
    return sight
