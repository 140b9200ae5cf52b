"""All foldings of a web onto another one, in their order."""

from viewkin.errors import Apart, BadFolding, BadNumber, TooGreat
from viewkin.foldings import is_folding
from viewkin.listings import all_foldings
from viewkin.views import kinds
from viewkin.webs import hangs_together, is_below

MOST_FOLDED = 24
MOST_FOLDINGS = 2000


def listed(one, other):
    """An ascending list of all foldings of one onto other, or what is at fault with the two."""
    if not hangs_together(one) or not hangs_together(other):
        raise Apart()
    if len(one) > MOST_FOLDED or len(other) > MOST_FOLDED:
        raise TooGreat(MOST_FOLDED)
    return all_foldings(one, other, MOST_FOLDINGS)


def foldings(one, other):
    """Yields all foldings of one onto other, ascending."""
    for folding in listed(one, other):
        yield folding


def count_foldings(one, other):
    """How many foldings of one onto other there are."""
    return len(listed(one, other))


def folding_at(one, other, number):
    """The folding of one onto other with this number, counted from 0."""
    found = listed(one, other)
    if not is_below(number, len(found)):
        raise BadNumber(number)
    return found[number]


def folding_number(one, other, value):
    """The number of a folding of one onto other."""
    found = listed(one, other)
    if not is_folding(one, other, value):
        raise BadFolding(value)
    return found.index(value)


def turnings(web):
    """An ascending tuple of all turnings of a web."""
    return tuple(listed(web, web))


def lone(web):
    """An ascending tuple of the lone places of a web."""
    return tuple([group[0] for group in kinds(web) if len(group) == 1])
