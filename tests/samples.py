"""Values, rows and layouts that several tests use."""

import copy
import unittest

from shuntplan.errors import ParseError
from shuntplan.layouts import Layout

ANY_VALUES = [
    None, True, False, 0, 1, -1, 2, 10 ** 59, -(10 ** 59), "", "a", "A", "a b", "a\n", " ", (), [], {},
    (1,), [1], {"a": 1}, ("a",), ["a"], ("a", 2), ("a", "b"), (("a", 0), ("b", 1)), [("a", 0), ("b", 1)],
    ((((((((1,),),),),),),),), [[[[[[[["a"]]]]]]]], {"a": {"b": {"c": [(None, True)]}}}, (None, None), [None, "a"],
]

# Names of one letter and, behind them, of two: more than a layout may have.
NAMES = [first + second for first in ("", "a") for second in "abcdefghijklmnopqrstuvwxyz"]


def straight(names):
    """The row of these names, each in direction 1."""
    return tuple([(name, 1) for name in names])


def ends_of(names):
    return [(name, side) for name in sorted(names) for side in (0, 1)]


def matchings(ends):
    """All lists of couplings of some of the ends."""
    if not ends:
        return [[]]
    first, rest = ends[0], ends[1:]
    found = matchings(rest)
    for partner in rest:
        others = [end for end in rest if end != partner]
        found = found + [[(first, partner)] + more for more in matchings(others)]
    return found


def all_layouts(names):
    return [Layout(list(names), couplings) for couplings in matchings(ends_of(names))]


SMALL = [all_layouts(NAMES[:count]) for count in range(4)]


class Dice:
    """Numbers that look like chance but are the same for the same seed."""

    def __init__(self, seed):
        self.state = seed + 1

    def below(self, limit):
        self.state = (self.state * 1103515245 + 12345) % 2 ** 31
        return self.state // 65536 % limit

    def one_of(self, things):
        return things[self.below(len(things))]


def shuffled(things, seed):
    """The list of these things in an order that depends on the seed."""
    things, dice = list(things), Dice(seed)
    for place in range(len(things) - 1, 0, -1):
        chosen = dice.below(place + 1)
        things[place], things[chosen] = things[chosen], things[place]
    return things


def scattered(names, seed, free):
    """A layout with so many free ends in which the couplings lie here and there."""
    ends = shuffled(ends_of(names), seed)[free:]
    return Layout(list(names), list(zip(ends[::2], ends[1::2])))


def partners_of(layout):
    """The dict from each end of a layout to its partner, or None."""
    partners = {end: None for end in ends_of(layout.wagons)}
    for one, other in layout.couplings:
        partners[one], partners[other] = other, one
    return partners


def couplings_in(partners):
    """The tuple of the couplings in a dict of partners."""
    return tuple([(one, other) for one, other in partners.items() if other is not None and one < other])


def coupled_by_hand(layout, one, other):
    """The couplings of a layout after the coupling of two ends, by the words of point [8]."""
    partners = partners_of(layout)
    left, right = partners[one], partners[other]
    for end in (left, right):
        if end is not None:
            partners[end] = None
    partners[one], partners[other] = other, one
    if left is not None and right is not None:
        partners[left], partners[right] = right, left
    return couplings_in(partners)


def cut_by_hand(layout, end):
    """The couplings of a layout after the cut at an end, by the words of point [8]."""
    partners = partners_of(layout)
    partners[partners[end]], partners[end] = None, None
    return couplings_in(partners)


def around(layout):
    """The set of the couplings of each layout that is one step away."""
    ends = ends_of(layout.wagons)
    pairs = [(one, other) for one in ends for other in ends if one < other and layout[one] != other]
    found = {coupled_by_hand(layout, one, other) for one, other in pairs}
    return found | {cut_by_hand(layout, end) for end in ends if layout[end] is not None}


def steps_between(count):
    """A dict from all pairs of layouts of so many wagons to their distance and the number of shortest plans."""
    links = {layout.couplings: around(layout) for layout in SMALL[count]}
    found = {}
    for start in links:
        ways, steps = {start: 1}, 0
        seen = set()
        while ways:
            seen |= set(ways)
            further = {}
            for place, many in ways.items():
                found[start, place] = (steps, many)
                for after in links[place] - seen:
                    further[after] = further.get(after, 0) + many
            ways, steps = further, steps + 1
    return found


class Case(unittest.TestCase):
    """A test case that also looks at the fields of errors and at what was passed."""

    def assert_refused(self, error, fields, call, *arguments, **named):
        """The call raises just this error, whose attributes are these very objects, and changes no argument."""
        before = copy.deepcopy((arguments, named))
        with self.assertRaises(error) as caught:
            call(*arguments, **named)
        self.assertEqual((arguments, named), before)
        self.assertIs(caught.exception.__class__, error)
        self.assertEqual(set(vars(caught.exception)), set(fields))
        for field, value in fields.items():
            self.assertIs(getattr(caught.exception, field), value)

    def assert_offset(self, read, text, offset):
        """The text is refused with just this offset."""
        with self.assertRaises(ParseError, msg=repr(text)) as caught:
            read(text)
        self.assertEqual(caught.exception.offset, offset, repr(text))
        self.assertIs(caught.exception.offset.__class__, int)
