"""The turnings of a web that hangs together, told by a few of which all others are made up."""

from viewkin.searches import Search, spots_of


def after(last, first):
    """Where places go that a folding leads first, and a turning last."""
    return tuple([last[spot] for spot in first])


def orbit_of(place, moves, many):
    """For each place to which some turnings lead a place, one after the other, what leads it there.

    many is how many places the web has.
    """
    found = {place: tuple(range(many))}
    waiting = [place]
    while waiting:
        at = waiting.pop()
        for move in moves:
            if move[at] not in found:
                found[move[at]] = after(move, found[at])
                waiting.append(move[at])
    return found


class Group:
    """All turnings of a web.

    A level is a place, and the options of all places while those of the earlier levels stay
    where they are. The turnings that keep these are made up of the ones of the later levels,
    and of one for each place where the place of the level may go.
    """

    def __init__(self, web):
        self.search = Search(web, web)
        self.many = len(web)
        self.known = {}

    def levels(self, kept):
        """The levels of the turnings that keep some places where they are."""
        search = self.search
        options = [1 << spot if kept >> spot & 1 == 1 else search.start[spot] for spot in search.places]
        search.settle(options, list(search.places))
        found = []
        place = search.open_place(options)
        while place is not None:
            found.append((place, options))
            options = search.put(options, place, place)
            place = search.open_place(options)
        return found

    def lengthen(self, moves, place, options):
        """Adds turnings of a level to those of the later ones; the orbit of its place."""
        orbit = orbit_of(place, moves, self.many)
        refused = {}
        for spot in spots_of(options[place]):
            if spot not in orbit and spot not in refused:
                move = self.search.folding_by(options, place, spot)
                if move is None:
                    # The place goes to none of those to which turnings lead a spot where it cannot go.
                    refused.update(orbit_of(spot, moves, self.many))
                else:
                    moves.append(move)
                    orbit = orbit_of(place, moves, self.many)
        return orbit

    def moves_keeping(self, kept):
        """Turnings that keep some places, and of which all that keep them are made up."""
        if kept not in self.known:
            moves = []
            for place, options in reversed(self.levels(kept)):
                self.lengthen(moves, place, options)
            self.known[kept] = moves
        return self.known[kept]

    def all_moves(self, most):
        """A list of all turnings, or None if there are more than most."""
        moves = []
        found = [tuple(range(self.many))]
        for place, options in reversed(self.levels(0)):
            orbit = self.lengthen(moves, place, options)
            if len(orbit) * len(found) > most:
                return None
            found = [after(orbit[spot], move) for spot in orbit for move in found]
        return found
