"""Orders of names, rearranged by exchanging two stretches."""

from shuntplan.errors import InvalidExchange, InvalidOrder, OtherWagons
from shuntplan.layouts import is_name_list
from shuntplan.trains import is_integer

MOST_IN_ORDER = 12

# The node that follows the last name of an order and comes before its first one; it is no name.
OUTSIDE = ""


def check_order(value):
    """Raises InvalidOrder unless the value is an order."""
    if not isinstance(value, tuple) or not is_name_list(value) or len(value) > MOST_IN_ORDER:
        raise InvalidOrder(value)


def check_same_names(one, other):
    """Raises an error unless both values are orders of the same names."""
    check_order(one)
    check_order(other)
    if sorted(one) != sorted(other):
        raise OtherWagons()


def is_exchange(value, length):
    """Whether any value is an exchange of an order of this length."""
    if not isinstance(value, tuple) or len(value) != 4 or not all([is_integer(index) for index in value]):
        return False
    i, j, k, l = value
    return 0 <= i < j <= k < l <= length


def after_exchange(things, exchange):
    """The tuple of things in which two stretches of it have changed places."""
    i, j, k, l = exchange
    return things[:i] + things[k:l] + things[j:k] + things[i:j] + things[l:]


def exchanged_order(order, exchange):
    """The order in which the two stretches of an exchange have changed places."""
    check_order(order)
    if not is_exchange(exchange, len(order)):
        raise InvalidExchange(exchange)
    return after_exchange(order, exchange)


def nodes_around(order):
    """The tuple of the nodes that one comes to from the outside, along an order, to the outside again."""
    return (OUTSIDE,) + order + (OUTSIDE,)


def double_links(one, other):
    """The dict from each node to the one that a link of the first order and then one of the second lead to."""
    forth = nodes_around(one)
    back = nodes_around(other)[::-1]
    following = {node: after for node, after in zip(forth, forth[1:])}
    leading = {node: before for node, before in zip(back, back[1:])}
    return {node: leading[following[node]] for node in following}


def cycle_count(links):
    """The number of cycles along which this dict leads from node to node."""
    seen = set()
    cycles = 0
    for start in links:
        if start not in seen:
            cycles = cycles + 1
        node = start
        while node not in seen:
            seen.add(node)
            node = links[node]
    return cycles


def order_distance(one, other):
    """The least number of exchanges from one order to the other."""
    check_same_names(one, other)
    return (len(one) + 1 - cycle_count(double_links(one, other))) // 2


def nearer_exchange(order, goal):
    """An exchange that leads one exchange nearer to a different order."""
    places = [goal.index(name) for name in order] + [len(goal)]
    start = min([at for at, place in enumerate(places) if place != at])
    third = places.index(start)
    # After the exchange, the name that belongs at the start stands there, and the one between that belongs farthest
    # behind stands in front of the one that follows it in the goal. That makes two cycles more, the most there can be.
    last = max(places[start:third])
    return start, places.index(last) + 1, third, places.index(last + 1)


def order_plan(one, other):
    """A shortest list of exchanges that lead from the first to the second order."""
    check_same_names(one, other)
    exchanges = []
    while one != other:
        exchange = nearer_exchange(one, other)
        exchanges.append(exchange)
        one = after_exchange(one, exchange)
    return exchanges
