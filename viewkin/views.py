"""Views of places, and the kinds of places that they tell apart."""

from viewkin.errors import BadNumber, TooGreat
from viewkin.sights import sight_of, sight_of_both
from viewkin.webs import check_place, is_whole

MOST_DEPTH = 20
MOST_SEEN = 5000


def check_depth(depth):
    """Raises BadNumber for any value that is no depth."""
    if not is_whole(depth) or depth < 0:
        raise BadNumber(depth)


def walks(web, place, depth):
    """For each number of steps up to a depth, how many walks lead from a place to which places.

    A view has one colour for each walk; they are counted before any view is made, as
    views may grow beyond all bounds.
    """
    ends = {place: 1}
    levels = [ends]
    seen = 1
    for step in range(depth):
        further = {}
        for spot in ends:
            for near in web.rows[spot]:
                further[near] = further.get(near, 0) + ends[spot]
        seen += sum([further[near] for near in further])
        if seen > MOST_SEEN:
            raise TooGreat(MOST_SEEN)
        levels.append(further)
        ends = further
    return levels


def around(web, spot, views):
    """The view of a place, from the views of its neighbours to the depth before."""
    return (web.colours[spot], tuple(sorted([views[near] for near in web.rows[spot]])))


def view(web, place, depth):
    """The view of a place to a depth."""
    check_place(web, place)
    check_depth(depth)
    if depth > MOST_DEPTH:
        raise TooGreat(MOST_SEEN)
    levels = walks(web, place, depth)
    views = {spot: (web.colours[spot], ()) for spot in levels[-1]}
    for ends in reversed(levels[:-1]):
        views = {spot: around(web, spot, views) for spot in ends}
    return views[place]


def same_view(one, place, other, spot, depth):
    """Whether the place of one and the spot of other have the same view to a depth."""
    check_place(one, place)
    check_place(other, spot)
    check_depth(depth)
    parted = parted_at(one, place, other, spot)
    return parted is None or depth < parted


def parted_at(one, place, other, spot):
    """The least depth to which two places have unlike views, or None if they are of one kind."""
    check_place(one, place)
    check_place(other, spot)
    sight = sight_of_both(one, other)
    while sight.same(place, len(one) + spot):
        if not sight.deepen():
            return None
    return sight.depth


def kinds(web):
    """An ascending tuple of the kinds, each an ascending tuple of places."""
    return kinds_at(web, len(web))


def kinds_at(web, depth):
    """An ascending tuple of the sets of places that have the same views to a depth."""
    check_depth(depth)
    sight = sight_of(web)
    sight.look(depth)
    return sight.bundled()


def depth_of(web):
    """The least depth to which places of unlike kinds have unlike views."""
    sight = sight_of(web)
    sight.look(len(web))
    return sight.depth
