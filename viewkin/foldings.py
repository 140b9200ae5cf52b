"""Foldings of a web onto another one."""

from viewkin.webs import is_below


def is_folding(one, other, value):
    """Whether any value is a folding of one onto other."""
    if not isinstance(value, tuple) or len(value) != len(one):
        return False
    if not all([is_below(spot, len(other)) for spot in value]):
        return False
    if len(set(value)) < len(other):
        return False
    keeps_colours = [other.colours[spot] for spot in value] == list(one.colours)
    return keeps_colours and keeps_neighbours(one, other, value)


def keeps_neighbours(one, other, value):
    """Whether the neighbours of each place go to those of the place where it goes, one to one."""
    for place, spot in enumerate(value):
        if sorted([value[near] for near in one.rows[place]]) != list(other.rows[spot]):
            return False
    return True
