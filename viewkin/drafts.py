"""Webs that deeds change, one deed after the other, before the new web is made."""

from viewkin.errors import TooGreat
from viewkin.webs import MANY_COLOURS, MOST_TIES, is_below, web_of_parts


def first_from(ties, tie):
    """The number of the first of some ascending ties that is not less than a tie."""
    low, high = 0, len(ties)
    while low < high:
        middle = (low + high) // 2
        if ties[middle] < tie:
            low = middle + 1
        else:
            high = middle
    return low


class Draft:
    """A web, with what deeds have changed of it.

    painted tells the new colours of places, tied whether there are ties that deeds have put
    in or taken out. All else is as in the web, so a deed takes no longer on a great one.
    """

    def __init__(self, web):
        self.base = web
        self.many = len(web.ties)
        self.painted = {}
        self.tied = {}

    def colour_of(self, place):
        """The colour of a place."""
        return self.painted.get(place, self.base.colours[place])

    def has_tie(self, low, high):
        """Whether there is a tie between two places, the lesser one first."""
        if (low, high) in self.tied:
            return self.tied[(low, high)]
        return high in self.base.rows[low]

    def is_deed(self, value):
        """Whether any value is a deed on the web as it is."""
        if not isinstance(value, tuple) or len(value) != 3 or not isinstance(value[0], str):
            return False
        word, first, last = value
        if word == "colour":
            return self.is_painting(first, last)
        if word != "tie" and word != "untie":
            return False
        if not is_below(last, len(self.base)) or not is_below(first, last):
            return False
        return self.has_tie(first, last) == (word == "untie")

    def is_painting(self, place, colour):
        """Whether a value is a place, and another one a colour that it does not have."""
        if not is_below(place, len(self.base)) or not is_below(colour, MANY_COLOURS):
            return False
        return self.colour_of(place) != colour

    def back_of(self, deed):
        """The deed that takes back a deed on the web as it is."""
        word, first, last = deed
        if word == "colour":
            return (word, first, self.colour_of(first))
        return ("untie" if word == "tie" else "tie", first, last)

    def carry_out(self, deed):
        """Does a deed; TooGreat if there would be too many ties."""
        word, first, last = deed
        if word == "colour":
            self.painted[first] = last
            return
        if word == "tie" and self.many == MOST_TIES:
            raise TooGreat(MOST_TIES)
        self.many += 1 if word == "tie" else -1
        self.tied[(first, last)] = word == "tie"

    def colours_now(self):
        """The colours of the web as it is."""
        colours = list(self.base.colours)
        for place in self.painted:
            colours[place] = self.painted[place]
        return tuple(colours)

    def ties_now(self):
        """The ties of the web as it is, put together from runs of those that it had."""
        before = self.base.ties
        ties = []
        start = 0
        for tie in sorted(self.tied):
            stop = first_from(before, tie)
            ties.extend(before[start:stop])
            if self.tied[tie]:
                ties.append(tie)
            start = stop + 1 if before[stop:stop + 1] == (tie,) else stop
        ties.extend(before[start:])
        return tuple(ties)

    def rows_now(self):
        """The neighbours of each place of the web as it is."""
        rows = list(self.base.rows)
        changed = {}
        for low, high in self.tied:
            for place, near in ((low, high), (high, low)):
                if place not in changed:
                    changed[place] = {spot: True for spot in rows[place]}
                changed[place][near] = self.tied[(low, high)]
        for place in changed:
            row = changed[place]
            rows[place] = tuple(sorted([spot for spot in row if row[spot]]))
        return tuple(rows)

    def made(self):
        """The web as it is."""
        return web_of_parts(self.colours_now(), self.ties_now(), self.rows_now())
