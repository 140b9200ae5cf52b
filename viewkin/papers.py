"""Papers: what shows that two webs look alike, or that they do not."""

from viewkin.commons import common, unmatched
from viewkin.errors import BadColours, BadTies, TooGreat
from viewkin.foldings import is_folding
from viewkin.sights import sight_of_both
from viewkin.webs import Web, is_below, is_whole


def unseen_at(web, place, other):
    """The least depth to which no place of other has the view of a place of web, or None."""
    sight = sight_of_both(web, other)
    spots = list(range(len(web), len(web) + len(other)))
    while True:
        spots = sight.among(place, spots)
        if len(spots) == 0:
            return sight.depth
        if not sight.deepen():
            return None


def paper(one, other):
    """A paper on two webs."""
    found = unmatched(one, other)
    if found is None:
        web, first, second = common(one, other)
        return ("common", web.colours, web.ties, first, second)
    side, place = found
    if side == 0:
        return ("view", 0, place, unseen_at(one, place, other))
    return ("view", 1, place, unseen_at(other, place, one))


def is_paper(one, other, value):
    """Whether any value is a paper on two webs."""
    if not isinstance(value, tuple) or len(value) == 0 or not isinstance(value[0], str):
        return False
    if value[0] == "common" and len(value) == 5:
        return is_common_paper(one, other, value)
    if value[0] == "view" and len(value) == 4:
        return is_view_paper(one, other, value)
    return False


def is_common_paper(one, other, value):
    """Whether a tuple of five tells a web that folds onto both webs, and how it does."""
    word, colours, ties, first, second = value
    if not isinstance(colours, tuple) or not isinstance(ties, tuple):
        return False
    try:
        web = Web(colours, ties)
    except (BadColours, BadTies, TooGreat):
        return False
    return is_folding(web, one, first) and is_folding(web, other, second)


def is_view_paper(one, other, value):
    """Whether a tuple of four tells a place with a view that the other web lacks, and from where on."""
    word, side, place, depth = value
    if not is_below(side, 2) or not is_whole(depth):
        return False
    webs = (one, other)
    web = webs[side]
    if not is_below(place, len(web)):
        return False
    return depth == unseen_at(web, place, webs[1 - side])
