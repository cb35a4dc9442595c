"""Point [13]; promises 1 to 3 of the stage about orders, and the examples of their section."""

import itertools
import unittest

from shuntplan.errors import InvalidExchange, InvalidOrder, OtherWagons
from shuntplan.orders import exchanged_order, order_distance, order_plan
from tests.samples import ANY_VALUES, NAMES, Case, shuffled

# Values that are no orders, other than those among ANY_VALUES.
NO_ORDERS = [
    ["a", "b"], [], ("a", "a"), ("b", "a", "b"), ("A",), ("a", ""), ("a", "abcdefghi"), ("a", "b c"), ("a", 1),
    (("a", 1),), ("a", ["b"]), ("a", None), ("a", {}), tuple(NAMES[:13]), tuple(NAMES[:12] + NAMES[:1]), "ab",
    {"a": 0}, ("a\n",), tuple(NAMES),
]
NO_ORDERS += [value for value in ANY_VALUES if value not in ((), ("a",), ("a", "b"))]

# Values that are no exchanges, whatever the order is.
NO_EXCHANGES = ANY_VALUES + [
    (0, 1, 1), (0, 1, 1, 2, 3), [0, 1, 1, 2], (0, 1, 2, True), (False, 1, 1, 2), (0, True, True, 2), (0, True, 1, 2),
    (0, 1, True, 2), (-1, 1, 1, 2), (-2, -1, 1, 2), (0, 1, 2, -1), (0, 0, 1, 2), (1, 1, 1, 2), (0, 1, 2, 2),
    (0, 2, 1, 3), (0, 1, 2, 1), (1, 0, 2, 3), (2, 3, 0, 1), (0, 1, 1, None), ("0", 1, 1, 2), (0, 1, (1,), 2),
    (0, 1, 1, 10 ** 59), (0, 1, [], 2), "0112", {0: 1, 1: 2},
]


def order_of(count, seed=None):
    """An order of so many names; the seed says how they stand."""
    return tuple(NAMES[:count] if seed is None else shuffled(NAMES[:count], seed))


def exchanges_of(length):
    marks = itertools.product(range(length + 1), repeat=4)
    return [(i, j, k, l) for i, j, k, l in marks if i < j <= k < l]


def exchanged_by_hand(order, exchange):
    i, j, k, l = exchange
    names = list(order)
    one, other = names[i:j], names[k:l]
    names[k:l] = one
    names[i:j] = other
    return tuple(names)


def distances_from(order):
    """The dict from each order to its distance from this one, found level by level."""
    found, level, exchanges = {order: 0}, [order], exchanges_of(len(order))
    while level:
        after = {exchanged_by_hand(near, exchange): found[near] + 1 for near in level for exchange in exchanges}
        level = [near for near in after if near not in found]
        found.update({near: after[near] for near in level})
    return found


def distance_by_hand(one, other):
    """The distance by the words of the document: the links of the first kind are gone along one after the other."""
    first, second = (None,) + one + (None,), (None,) + other + (None,)
    links, cycles = list(zip(first, first[1:])), 0
    while links:
        cycles += 1
        start, end = links[0]
        place = start
        while (place, end) in links:
            links.remove((place, end))
            place = second[second.index(end, 1) - 1]
            end = first[first.index(place) + 1]
    halves = divmod(len(one) + 1 - cycles, 2)
    assert halves[1] == 0
    return halves[0]


def is_plain_exchange(value, length):
    is_plain = value.__class__ is tuple and {part.__class__ for part in value} == {int} and len(value) == 4
    return is_plain and 0 <= value[0] < value[1] <= value[2] < value[3] <= length


class ExampleTest(unittest.TestCase):
    def test_examples(self):
        self.assertEqual(exchanged_order(("a", "b", "c", "d"), (0, 1, 2, 4)), ("c", "d", "b", "a"))
        self.assertEqual(order_distance(("b", "a"), ("a", "b")), 1)


class ExchangedOrderTest(Case):
    """Promise 1."""

    def test_known_exchanges(self):
        order = tuple("abcdef")
        for exchange, after in [
            ((0, 1, 1, 2), "bacdef"), ((2, 3, 3, 4), "abdcef"), ((0, 2, 4, 6), "efcdab"), ((0, 3, 3, 6), "defabc"),
            ((1, 2, 3, 5), "adecbf"), ((0, 1, 1, 6), "bcdefa"), ((0, 5, 5, 6), "fabcde"), ((0, 1, 5, 6), "fbcdea"),
            ((4, 5, 5, 6), "abcdfe"), ((1, 4, 5, 6), "afebcd"),
        ]:
            self.assertEqual(exchanged_order(order, exchange), tuple(after))
            self.assertEqual(exchanged_order(exchange=exchange, order=order), tuple(after))
        self.assertEqual(order, tuple("abcdef"))

    def test_all_exchanges(self):
        for count in (0, 1, 2, 3, 5, 8, 12):
            order = order_of(count, count)
            for exchange in exchanges_of(count):
                i, j, k, l = exchange
                after = exchanged_order(order, exchange)
                self.assertEqual(after, exchanged_by_hand(order, exchange))
                self.assertIs(after.__class__, tuple)
                back = (i, i + l - k, l - (j - i), l)
                self.assertEqual(exchanged_order(after, back), order)

    def test_long_names(self):
        order = ("abcdefgh", "a", "zz")
        self.assertEqual(exchanged_order(order, (0, 1, 2, 3)), ("zz", "a", "abcdefgh"))

    def test_no_order(self):
        for value in NO_ORDERS:
            with self.subTest(value=value):
                self.assert_refused(InvalidOrder, {"value": value}, exchanged_order, value, (0, 1, 1, 2))
                self.assert_refused(InvalidOrder, {"value": value}, exchanged_order, value, None)
                self.assert_refused(InvalidOrder, {"value": value}, exchanged_order, exchange=[], order=value)

    def test_no_exchange(self):
        for count in (0, 1, 2, 3, 12):
            for value in NO_EXCHANGES:
                with self.subTest(count=count, value=value):
                    self.assert_refused(InvalidExchange, {"value": value}, exchanged_order, order_of(count), value)

    def test_indexes_that_are_too_great(self):
        for count in range(13):
            for value in [(0, 1, 1, count + 1), (0, 1, count, count + 1), (count, count + 1, count + 1, count + 2)]:
                self.assert_refused(InvalidExchange, {"value": value}, exchanged_order, order_of(count), value)

    def test_exactly_the_exchanges_are_accepted(self):
        order = order_of(3)
        allowed = exchanges_of(3)
        self.assertEqual(len(allowed), 5)
        for value in itertools.product(range(-1, 5), repeat=4):
            if value in allowed:
                self.assertEqual(exchanged_order(order, value), exchanged_by_hand(order, value))
            else:
                self.assert_refused(InvalidExchange, {"value": value}, exchanged_order, order, value)


class DistanceTest(Case):
    """Promise 2, and promise 3 beside it."""

    def assert_pair(self, one, other, expected):
        self.assertEqual(order_distance(one, other), expected)
        self.assertEqual(order_distance(other=one, one=other), expected)
        self.assertIs(order_distance(one, other).__class__, int)
        exchanges = order_plan(one, other)
        self.assertIs(exchanges.__class__, list)
        self.assertEqual(len(exchanges), expected)
        order = one
        for exchange in exchanges:
            self.assertTrue(is_plain_exchange(exchange, len(one)), exchange)
            order = exchanged_by_hand(order, exchange)
        self.assertEqual(order, other)

    def test_by_a_search(self):
        for count in range(6):
            found = distances_from(order_of(count))
            self.assertEqual(set(found), set(itertools.permutations(order_of(count))))
            for order, expected in found.items():
                self.assertEqual(distance_by_hand(order_of(count), order), expected)
                self.assert_pair(order_of(count), order, expected)
                self.assert_pair(order, order_of(count), expected)

    def test_all_pairs_of_four_names(self):
        orders = list(itertools.permutations(order_of(4)))
        for one in orders[::5]:
            found = distances_from(one)
            for other in orders:
                self.assert_pair(one, other, found[other])

    def test_up_to_twelve_names(self):
        for count in range(6, 13):
            for seed in range(40):
                one, other = order_of(count, seed), order_of(count, seed + 500)
                self.assert_pair(one, other, distance_by_hand(one, other))
                self.assert_pair(order_of(count), one, distance_by_hand(order_of(count), one))

    def test_known_distances(self):
        for count in range(13):
            order = order_of(count)
            self.assert_pair(order, order[::-1], count // 2)
            self.assert_pair(order, order[1:] + order[:1], 1 if count > 1 else 0)
            swapped = tuple([name for pair in zip(order[1::2], order[::2]) for name in pair])
            self.assert_pair(order[:len(swapped)], swapped, count // 2)

    def test_zero_only_for_equal_orders(self):
        for count in range(13):
            self.assert_pair(order_of(count, 3), tuple(list(order_of(count, 3))), 0)
            for exchange in exchanges_of(count)[::17]:
                self.assert_pair(exchanged_by_hand(order_of(count, 3), exchange), order_of(count, 3), 1)

    def test_other_names_change_nothing(self):
        for count in (2, 5, 9, 12):
            for seed in range(10):
                one, other = order_of(count, seed), order_of(count, seed + 70)
                renamed = dict(zip(order_of(count), shuffled(["zz" + name for name in NAMES[:count]], seed)))
                pair = [tuple([renamed[name] for name in order]) for order in (one, other)]
                self.assertEqual(order_distance(*pair), order_distance(one, other))

    def test_a_new_list_each_time(self):
        one, other = order_of(7, 1), order_of(7, 2)
        for first, second in [(one, other), (one, one), ((), ())]:
            before = order_plan(one=first, other=second)
            kept = list(before)
            before.append(None)
            self.assertEqual(order_plan(other=second, one=first), kept)
        self.assertEqual(order_plan(one, one), [])

    def test_no_order(self):
        good = order_of(2)
        for function in (order_distance, order_plan):
            for value in NO_ORDERS:
                with self.subTest(function.__name__, value=value):
                    self.assert_refused(InvalidOrder, {"value": value}, function, value, good)
                    self.assert_refused(InvalidOrder, {"value": value}, function, good, value)
                    self.assert_refused(InvalidOrder, {"value": value}, function, value, None)
                    self.assert_refused(InvalidOrder, {"value": value}, function, other=["a"], one=value)

    def test_other_names(self):
        for function in (order_distance, order_plan):
            for one, other in [("a", ""), ("", "a"), ("a", "b"), ("ab", "a"), ("a", "ab"), ("abc", "abd")]:
                self.assert_refused(OtherWagons, {}, function, tuple(one), tuple(other))
            self.assert_refused(OtherWagons, {}, function, ("ab",), ("a", "b"))
            self.assert_refused(OtherWagons, {}, function, order_of(12), order_of(11))


if __name__ == "__main__":
    unittest.main()
