"""Layered webs: webs of several layers over a web."""

from viewkin.errors import Apart, BadFolding, BadNumber, BadOrders, TooGreat
from viewkin.foldings import is_folding
from viewkin.webs import MOST_PLACES, MOST_TIES, Web, hangs_together, is_order, is_whole

MOST_LAYERS = 12


def check_many(many):
    """Raises BadNumber for any value that is no number of layers."""
    if not is_whole(many) or not 1 <= many <= MOST_LAYERS:
        raise BadNumber(many)


def check_orders(orders, count, many):
    """Raises BadOrders for any value that does not tell as many layer orders as count."""
    if not isinstance(orders, (list, tuple)) or len(orders) != count:
        raise BadOrders(None)
    for number, order in enumerate(orders):
        if not is_order(order, many):
            raise BadOrders(number)


def layered_ties(web, many, orders):
    """The ties of a layered web, in ascending order."""
    rows = [[] for place in range(len(web) * many)]
    # The ties of a place ascend, and so do the layers behind it that one layer is tied to.
    for (low, high), order in zip(web.ties, orders):
        for layer in range(many):
            rows[low * many + layer].append(high * many + order[layer])
    return [(place, near) for place, row in enumerate(rows) for near in row]


def layered(web, many, orders):
    """The layered web of a web and of a layer order for each of its ties."""
    check_many(many)
    check_orders(orders, len(web.ties), many)
    if len(web) * many > MOST_PLACES:
        raise TooGreat(MOST_PLACES)
    if len(web.ties) * many > MOST_TIES:
        raise TooGreat(MOST_TIES)
    colours = [colour for colour in web.colours for layer in range(many)]
    return Web(colours, layered_ties(web, many, orders))


def down(web, many):
    """The folding of a layered web of so many layers that leads each layer of a place to this place."""
    check_many(many)
    return tuple([place for place in range(len(web)) for layer in range(many)])


def power(base, exponent):
    """A power with an exponent from 0 on; by halves, as exponents may be great."""
    if exponent == 0:
        return 1
    half = power(base, exponent // 2)
    return half * half * base if exponent % 2 == 1 else half * half


def factorials(most):
    """The factorials of all integers from 0 to most."""
    found = [1]
    for number in range(1, most + 1):
        found.append(found[-1] * number)
    return found


def count_layered(web, many):
    """How many tuples of layer orders there are for so many layers."""
    check_many(many)
    return power(factorials(many)[many], len(web.ties))


def whole_part(many, excess):
    """W(many) of [53], for webs with so many more ties than places, and one more."""
    facts = factorials(many)
    powers = [power(fact, excess) for fact in facts]
    wholes = [0]
    for size in range(1, many + 1):
        less = 0
        for part in range(1, size):
            ways = facts[size - 1] // facts[part - 1] // facts[size - part]
            less = less + ways * wholes[part] * powers[size - part]
        wholes.append(powers[size] - less)
    return wholes[many]


def count_whole(web, many):
    """How many tuples of layer orders for so many layers make layered webs that hang together."""
    check_many(many)
    if not hangs_together(web):
        raise Apart()
    excess = len(web.ties) - len(web) + 1
    return power(factorials(many)[many], len(web) - 1) * whole_part(many, excess)


def leaves(one, other, value):
    """The leaves of a folding of one onto other."""
    if not hangs_together(other):
        raise Apart()
    if not is_folding(one, other, value):
        raise BadFolding(value)
    return len(one) // len(other)


def layer_numbers(value, spots, many):
    """For each place the number of its layer, where a folding with so many leaves leads to so many spots."""
    counts = [0] * spots
    order = []
    for spot in value:
        order.append(spot * many + counts[spot])
        counts[spot] += 1
    return tuple(order)


def unlayered(one, other, value):
    """The layers, the layer orders and the new names by which a web is a layered web of other."""
    many = leaves(one, other, value)
    if many > MOST_LAYERS:
        raise TooGreat(MOST_LAYERS)
    order = layer_numbers(value, len(other), many)
    orders = {tie: [0] * many for tie in other.ties}
    for first, last in one.ties:
        low, high = min(order[first], order[last]), max(order[first], order[last])
        orders[(low // many, high // many)][low % many] = high % many
    return many, tuple([tuple(orders[tie]) for tie in other.ties]), order
