"""Webs: places with colours, some of which are tied."""

from viewkin.errors import BadColours, BadOrder, BadPlace, BadTies, TooGreat

MOST_PLACES = 2000
MOST_TIES = 30000
MANY_COLOURS = 10


def is_whole(value):
    """Whether a value is an integer; True and False are none."""
    return isinstance(value, int) and not isinstance(value, bool)


def is_below(value, many):
    """Whether a value is an integer from 0 to many - 1."""
    return is_whole(value) and 0 <= value < many


def is_order(value, many):
    """Whether a value is a tuple with each number from 0 to many - 1 once."""
    if not isinstance(value, tuple) or len(value) != many:
        return False
    met = {number: True for number in value if is_below(number, many)}
    return len(met) == many


def check_colours(colours):
    """Raises what is at fault with the colours of a web."""
    if not isinstance(colours, (list, tuple)) or len(colours) == 0:
        raise BadColours(None)
    if len(colours) > MOST_PLACES:
        raise TooGreat(MOST_PLACES)
    for place, colour in enumerate(colours):
        if not is_below(colour, MANY_COLOURS):
            raise BadColours(place)


def check_ties(ties, many):
    """Raises what is at fault with the ties of a web of so many places."""
    if not isinstance(ties, (list, tuple)):
        raise BadTies(None)
    if len(ties) > MOST_TIES:
        raise TooGreat(MOST_TIES)
    # Asked tie by tie without calls of own functions, as these would take most of the time.
    at = last = 0
    for number, tie in enumerate(ties):
        if not isinstance(tie, tuple) or len(tie) != 2:
            raise BadTies(number)
        low, high = tie
        if not isinstance(low, int) or not isinstance(high, int):
            raise BadTies(number)
        # True and False are less than 2, and a lesser place from 2 on leaves no room for them.
        if low < 2 and (isinstance(low, bool) or isinstance(high, bool)):
            raise BadTies(number)
        if low > at:
            at = last = low
        if low < at or not last < high < many:
            raise BadTies(number)
        last = high


def check_place(web, place):
    """Raises BadPlace for any value that is no place of the web."""
    if not is_below(place, len(web)):
        raise BadPlace(place)


def neighbour_rows(many, ties):
    """A tuple with the neighbours of each place."""
    rows = [[] for place in range(many)]
    # As the ties ascend, each row comes to ascend too.
    for low, high in ties:
        rows[low].append(high)
        rows[high].append(low)
    return tuple([tuple(row) for row in rows])


class Web:
    """A web: the colours of its places, and its ties, both as tuples."""

    def __init__(self, colours, ties):
        check_colours(colours)
        check_ties(ties, len(colours))
        self.colours = tuple(colours)
        self.ties = tuple(ties)
        self.rows = neighbour_rows(len(colours), ties)

    def __len__(self):
        return len(self.colours)

    def __eq__(self, other):
        return isinstance(other, Web) and self.colours == other.colours and self.ties == other.ties

    def neighbours(self, place):
        """An ascending tuple of the neighbours of a place."""
        check_place(self, place)
        return self.rows[place]


def web_of_parts(colours, ties, rows):
    """The web of these colours and ties, all of them right, and with these neighbours.

    Nothing is asked again: that takes most of the time of making a great web.
    """
    web = Web((0,), ())
    web.colours = colours
    web.ties = ties
    web.rows = rows
    return web


def reached(rows, place):
    """A dict of all places to which rows of neighbours lead from a place, and of the place itself."""
    met = {place: True}
    waiting = [place]
    while waiting:
        last = waiting.pop()
        for spot in rows[last]:
            if spot not in met:
                met[spot] = True
                waiting.append(spot)
    return met


def linked(rows):
    """An ascending tuple of the greatest sets of places that rows of neighbours link."""
    found = []
    done = {}
    for place in range(len(rows)):
        if place not in done:
            met = reached(rows, place)
            found.append(tuple(sorted(met)))
            done.update(met)
    return tuple(found)


def pieces(web):
    """An ascending tuple of the pieces of a web."""
    return linked(web.rows)


def hangs_together(web):
    """Whether a web is of one piece."""
    return len(reached(web.rows, 0)) == len(web)


def beside(one, other):
    """The web of both webs, the places of other numbered on behind those of one."""
    many = len(one)
    behind = tuple([(low + many, high + many) for low, high in other.ties])
    return Web(one.colours + other.colours, one.ties + behind)


def part(web, places):
    """The web of some places, which ascend, and of the ties between these."""
    numbers = {place: number for number, place in enumerate(places)}
    colours = [web.colours[place] for place in places]
    kept = [(low, high) for low, high in web.ties if low in numbers and high in numbers]
    return Web(colours, [(numbers[low], numbers[high]) for low, high in kept])


def renamed(web, order):
    """The web in which place order[p] is what place p is in web."""
    if not is_order(order, len(web)):
        raise BadOrder(order)
    colours = [0] * len(web)
    for place, spot in enumerate(order):
        colours[spot] = web.colours[place]
    ends = [(order[low], order[high]) for low, high in web.ties]
    return Web(colours, sorted([(min(first, last), max(first, last)) for first, last in ends]))
