"""Values, rows and layouts that several tests use."""

import copy
import unittest

from shuntplan.errors import ParseError
from shuntplan.layouts import Layout

ANY_VALUES = [
    None, True, False, 0, 1, -1, 2, 10 ** 59, -(10 ** 59), "", "a", "A", "a b", "a\n", " ", (), [], {},
    (1,), [1], {"a": 1}, ("a",), ["a"], ("a", 2), ("a", "b"), (("a", 0), ("b", 1)), [("a", 0), ("b", 1)],
    ((((((((1,),),),),),),),), [[[[[[[["a"]]]]]]]], {"a": {"b": {"c": [(None, True)]}}}, (None, None), [None, "a"],
]

# Names of one letter and, behind them, of two: more than a layout may have.
NAMES = [first + second for first in ("", "a") for second in "abcdefghijklmnopqrstuvwxyz"]


def straight(names):
    """The row of these names, each in direction 1."""
    return tuple([(name, 1) for name in names])


def ends_of(names):
    return [(name, side) for name in sorted(names) for side in (0, 1)]


def matchings(ends):
    """All lists of couplings of some of the ends."""
    if not ends:
        return [[]]
    first, rest = ends[0], ends[1:]
    found = matchings(rest)
    for partner in rest:
        others = [end for end in rest if end != partner]
        found = found + [[(first, partner)] + more for more in matchings(others)]
    return found


def all_layouts(names):
    return [Layout(list(names), couplings) for couplings in matchings(ends_of(names))]


class Case(unittest.TestCase):
    """A test case that also looks at the fields of errors and at what was passed."""

    def assert_refused(self, error, fields, call, *arguments, **named):
        """The call raises just this error, whose attributes are these very objects, and changes no argument."""
        before = copy.deepcopy((arguments, named))
        with self.assertRaises(error) as caught:
            call(*arguments, **named)
        self.assertEqual((arguments, named), before)
        self.assertIs(caught.exception.__class__, error)
        self.assertEqual(set(vars(caught.exception)), set(fields))
        for field, value in fields.items():
            self.assertIs(getattr(caught.exception, field), value)

    def assert_offset(self, read, text, offset):
        """The text is refused with just this offset."""
        with self.assertRaises(ParseError, msg=repr(text)) as caught:
            read(text)
        self.assertEqual(caught.exception.offset, offset, repr(text))
        self.assertIs(caught.exception.offset.__class__, int)
