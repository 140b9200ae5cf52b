"""Tables of webs: how many neighbours of each kind the places of each kind have."""

from viewkin.views import kinds
from viewkin.webs import linked


def numbered(groups):
    """For each place the number of its group."""
    return {place: number for number, group in enumerate(groups) for place in group}


def tallies(groups, rows):
    """For each kind a dict: of which kinds its places have neighbours, and how many."""
    numbers = numbered(groups)
    found = []
    for group in groups:
        tally = {}
        # All places of a kind have as many neighbours of each kind, so one of them tells.
        for spot in rows[group[0]]:
            number = numbers[spot]
            tally[number] = tally.get(number, 0) + 1
        found.append(tally)
    return found


def table_row(tally, many):
    """The row of a kind in a table of so many kinds."""
    row = [0] * many
    for number in tally:
        row[number] = tally[number]
    return tuple(row)


def table(web):
    """The table of the kinds of a web, in the order of kinds(web)."""
    groups = kinds(web)
    return tuple([table_row(tally, len(groups)) for tally in tallies(groups, web.rows)])


def common_divisor(first, second):
    """The greatest common divisor of two integers above 0."""
    while second > 0:
        first, second = second, first % second
    return first


def common_multiple(numbers):
    """The least common multiple of integers above 0."""
    multiple = 1
    for number in numbers:
        multiple = multiple // common_divisor(multiple, number) * number
    return multiple


def shares_of(groups, found):
    """The shares of some kinds with these tallies.

    They are to each other as the numbers of places. For as many ties lead from one kind to
    another one as back; and a piece with a place of a kind has places of all kinds that
    are joined with it, so even of several pieces with these kinds that is true.
    """
    told = [0] * len(groups)
    for joined in linked(found):
        divisor = 0
        for number in joined:
            divisor = common_divisor(len(groups[number]), divisor)
        for number in joined:
            told[number] = len(groups[number]) // divisor
    return tuple(told)


def shares(web):
    """A tuple of the shares of the kinds of a web, in the order of kinds(web)."""
    groups = kinds(web)
    return shares_of(groups, tallies(groups, web.rows))


def great_numbers(found, told):
    """The great numbers of some kinds with these tallies and these shares."""
    greats = [0] * len(told)
    for joined in linked(found):
        factors = {}
        for number in joined:
            factors[told[number]] = True
            for near in found[number]:
                factors[told[number] * found[number][near]] = True
        great = common_multiple(factors)
        for number in joined:
            greats[number] = great
    return greats
