"""Webs that look alike, and webs that fold onto both of two such webs."""

from viewkin.errors import TooGreat, Unlike
from viewkin.sights import whole_sight
from viewkin.stacks import heights_of, plain_web
from viewkin.tables import tallies
from viewkin.webs import MOST_PLACES, hangs_together, part, pieces

MOST_MATCHED = 24


def unmatched(one, other):
    """The first (side, place) of whose kind the other web has no place, or None."""
    names = whole_sight(one, other).names
    here = set(names[:len(one)])
    there = set(names[len(one):])
    for place in range(len(one)):
        if names[place] not in there:
            return (0, place)
    for spot in range(len(other)):
        if names[len(one) + spot] not in here:
            return (1, spot)
    return None


def alike(one, other):
    """Whether two webs look alike."""
    return unmatched(one, other) is None


def plain_size(one, other):
    """The plain size of two webs that look alike."""
    sight = whole_sight(one, other)
    groups = sight.bundled()
    heights = heights_of(groups, tallies(groups, sight.rows))
    size = 0
    for group, height in zip(groups, heights):
        here = len([place for place in group if place < len(one)])
        there = len(group) - here
        if here == 0 or there == 0:
            raise Unlike()
        size += here * there * height
    return size


def least_piece(web, first, second):
    """A least piece of a web, with what two foldings of the web are on it."""
    piece = min(pieces(web), key=len)
    least = part(web, piece)
    return least, tuple([first[place] for place in piece]), tuple([second[place] for place in piece])


def common(one, other):
    """A web, and its foldings onto one and onto other."""
    if len(one) > MOST_MATCHED or len(other) > MOST_MATCHED:
        raise TooGreat(MOST_MATCHED)
    if plain_size(one, other) > MOST_PLACES:
        raise TooGreat(MOST_PLACES)
    web, first, second = plain_web(one, other)
    if hangs_together(one) and hangs_together(other):
        return least_piece(web, first, second)
    return web, first, second
