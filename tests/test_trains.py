"""Points [4], [6] and [7]; promises 1 to 5 and 16 of the stage about layouts."""

import copy
import itertools
import unittest

from shuntplan.errors import InvalidRow
from shuntplan.layouts import Layout
from shuntplan.trains import Line, Ring, Train, is_end, is_integer, is_name, is_row, turned
from tests.samples import ANY_VALUES, NAMES, Case, straight

NO_ROWS = [
    [], [("a", 1)], (["a", 1],), (("a",),), (("a", 1, 1),), (("a", 0),), (("a", True),), (("a", False),), (("a", 2),),
    (("a", -2),), (("a", None),), (("a", "1"),), (("A", 1),), (("", 1),), (("a" * 9, 1),), (("a\n", 1),), ((1, "a"),),
    (("a", 1), ("a", 1)), (("a", 1), ("b", 1), ("a", -1)), ("a", 1), "a", ("a",), None, 0, True, {}, {("a", 1): 1},
    (("a", 1), "b"), (("a", 1), ["b", 1]), (([], 1),), (({}, 1),), ((("a",), 1),), (("a", [1]),),
    straight(NAMES[:31]),
]


def rows_of(names):
    """All rows of some of these names, at least one."""
    return [
        tuple(zip(some, directions))
        for many in range(1, len(names) + 1)
        for some in itertools.permutations(names, many)
        for directions in itertools.product((1, -1), repeat=many)
    ]


def flipped(row):
    return tuple([(name, -direction) for name, direction in reversed(row)])


def readings_of_ring(row):
    """All readings of a ring: from each wagon, in both directions."""
    return [side[at:] + side[:at] for side in (row, flipped(row)) for at in range(len(row))]


class ValueTest(Case):
    """Promise 1."""

    def assert_answer(self, question, value, answer):
        before = copy.deepcopy(value)
        with self.subTest(question.__name__, value=value):
            self.assertIs(question(value), answer)
            self.assertIs(question(value=value), answer)
            self.assertEqual(value, before)

    def test_integers(self):
        for value in ANY_VALUES:
            self.assert_answer(is_integer, value, value.__class__ is int)

    def test_names(self):
        for name in ("a", "z", "ab", "abcdefgh", "zzzzzzzz", "azazaza"):
            self.assert_answer(is_name, name, True)
        for value in ("", "abcdefghi", "A", "aB", "a1", "1", "a b", " a", "a ", "a\n", "\n", "a-", "-a", "a_", "`", "{",
                      "abcdefg\n", "abcdefgh\n", "(a)", "a/", "~"):
            self.assert_answer(is_name, value, False)
        for value in ANY_VALUES:
            self.assert_answer(is_name, value, value == "a")

    def test_ends(self):
        for end in (("a", 0), ("a", 1), ("abcdefgh", 0), ("z", 1)):
            self.assert_answer(is_end, end, True)
        for value in (("a", 2), ("a", -1), ("a", True), ("a", False), ("a", "0"), ("a", None), ("a", (0,)), ("a", [0]),
                      ["a", 0], ("a",), ("a", 0, 0), (0, "a"), ("A", 0), ("", 0), ("abcdefghi", 1), ("a\n", 0),
                      (["a"], 0), (None, 0), (1, 1), (True, True), (("a", 0),), "a0", ("a", 10 ** 59)):
            self.assert_answer(is_end, value, False)
        for value in ANY_VALUES:
            self.assert_answer(is_end, value, False)

    def test_rows(self):
        for row in ((), (("a", 1),), (("a", -1),), (("b", -1), ("a", 1)), straight(NAMES[:30]), rows_of("abc")[-1]):
            self.assert_answer(is_row, row, True)
        for value in NO_ROWS:
            self.assert_answer(is_row, value, False)
        for value in ANY_VALUES:
            self.assert_answer(is_row, value, value == () and isinstance(value, tuple))


class TurnedTest(Case):
    """Promises 2 and 5."""

    def test_order_and_directions_are_opposite(self):
        self.assertEqual(turned((("a", 1), ("b", -1), ("c", 1))), (("c", -1), ("b", 1), ("a", -1)))
        self.assertEqual(turned(row=(("a", 1),)), (("a", -1),))
        self.assertEqual(turned(()), ())
        for row in rows_of("abc"):
            self.assertEqual(turned(row), flipped(row))
            self.assertEqual(turned(turned(row)), row)

    def test_thirty_wagons(self):
        self.assertEqual(turned(straight(NAMES[:30]))[0], (NAMES[29], -1))

    def test_refused(self):
        for value in NO_ROWS:
            with self.subTest(value=value):
                self.assert_refused(InvalidRow, {"value": value}, turned, value)
                self.assert_refused(InvalidRow, {"value": value}, turned, row=value)


class RefusedTrainTest(Case):
    """Promise 5."""

    def test_each_class_refuses_what_is_no_row(self):
        for value in NO_ROWS + ANY_VALUES + [(), straight(NAMES[:31]), straight(NAMES[:40])]:
            for made in (Train, Line, Ring):
                with self.subTest(made=made.__name__, value=value):
                    self.assert_refused(InvalidRow, {"value": value}, made, value)
                    self.assert_refused(InvalidRow, {"value": value}, made, row=value)

    def test_thirty_wagons_are_taken(self):
        row = straight(sorted(NAMES[:30]))
        self.assertEqual(Line(row).row, row)
        self.assertEqual(Ring(row).row, row)
        self.assertEqual(len(Line(row).links()), 29)
        self.assertEqual(len(Ring(row).links()), 30)


class NormalFormTest(Case):
    """Promise 2."""

    def test_classes(self):
        self.assertEqual(Line.__bases__, (Train,))
        self.assertEqual(Ring.__bases__, (Train,))

    def test_a_plain_train_is_neither_line_nor_ring(self):
        row = (("a", 1), ("b", 1))
        train = Train(row)
        self.assertEqual((train, train.row, len(train)), (Train(row), row, 2))
        self.assertNotEqual(train, Train(row[::-1]))
        self.assertEqual([train == Line(row), Ring(row) == train, train == row], [False, False, False])
        self.assertEqual(["b" in train, "c" in train], [True, False])

    def test_examples(self):
        self.assertEqual(Line((("b", 1), ("a", -1))).row, (("a", 1), ("b", -1)))
        self.assertEqual(Ring((("b", 1), ("a", -1))).row, (("a", 1), ("b", -1)))
        self.assertEqual(Line((("c", 1), ("a", 1), ("b", -1))).row, (("b", 1), ("a", -1), ("c", -1)))
        self.assertEqual(Ring((("c", 1), ("a", -1), ("b", -1))).row, (("a", 1), ("c", -1), ("b", 1)))

    def test_one_wagon_has_direction_1(self):
        for direction in (1, -1):
            self.assertEqual(Line((("a", direction),)).row, (("a", 1),))
            self.assertEqual(Ring((("a", direction),)).row, (("a", 1),))

    def test_line_normal_form(self):
        for row in rows_of("abcd"):
            normal = Line(row=row).row
            if len(row) == 1:
                self.assertEqual(normal, ((row[0][0], 1),))
            else:
                self.assertIn(normal, [row, flipped(row)])
                self.assertLess(normal[0][0], normal[-1][0])
            self.assertEqual(Line(row), Line(flipped(row)))
            self.assertEqual(Line(flipped(row)).row, normal)
            self.assertEqual(Line(normal).row, normal)
            self.assertEqual(len(Line(row)), len(row))

    def test_ring_normal_form(self):
        for row in rows_of("abcd"):
            normal = Ring(row=row).row
            self.assertEqual(normal[0], (min([name for name, _ in row]), 1))
            for reading in readings_of_ring(row):
                self.assertEqual(Ring(reading).row, normal)
                self.assertTrue(Ring(reading) == Ring(row))
                self.assertFalse(Ring(reading) != Ring(row))
            self.assertIn(normal, readings_of_ring(row))
            self.assertEqual(len(Ring(row)), len(row))

    def test_equality_is_that_of_normal_forms(self):
        for made in (Line, Ring):
            trains = [made(row) for row in rows_of("abc")]
            for one, other in itertools.product(trains, repeat=2):
                self.assertIs(one == other, one.row == other.row)
                self.assertIs(one != other, one.row != other.row)
        self.assertNotEqual(Line((("a", 1), ("b", 1))), Line((("a", 1), ("b", -1))))
        self.assertNotEqual(Ring((("a", 1), ("b", 1))), Ring((("a", 1), ("b", -1))))

    def test_line_never_equals_ring(self):
        for row in rows_of("abc"):
            self.assertIs(Line(row) == Ring(row), False)
            self.assertIs(Ring(row) == Line(row), False)
            self.assertIs(Line(row) != Ring(row), True)

    def test_equal_to_no_other_value(self):
        row = (("a", 1), ("b", 1))
        for train in (Line(row), Ring(row)):
            for value in ANY_VALUES + [row, train.text(), Layout.of(train)]:
                self.assertIs(train == value, False)
                self.assertIs(value == train, False)
                self.assertIs(train != value, True)

    def test_row_is_made_of_plain_tuples(self):
        for train in (Line((("b", 1), ("a", -1))), Ring((("b", 1), ("a", -1)))):
            self.assertIs(train.row.__class__, tuple)
            self.assertEqual([wagon.__class__ for wagon in train.row], [tuple, tuple])
            with self.assertRaises(AttributeError):
                train.row = ()


class LinkTest(Case):
    """Promise 3."""

    def test_examples(self):
        self.assertEqual(Ring((("a", 1),)).links(), [(("a", 0), ("a", 1))])
        self.assertEqual(Line((("a", 1),)).links(), [])
        self.assertEqual(Line((("a", 1), ("b", 1))).links(), [(("a", 1), ("b", 0))])
        self.assertEqual(Line((("a", -1), ("b", -1))).links(), [(("a", 0), ("b", 1))])
        self.assertEqual(Line((("a", 1), ("b", -1))).links(), [(("a", 1), ("b", 1))])
        self.assertEqual(Ring((("a", 1), ("b", 1))).links(), [(("a", 0), ("b", 1)), (("a", 1), ("b", 0))])
        self.assertEqual(
            Ring((("a", 1), ("c", -1), ("b", 1))).links(),
            [(("a", 0), ("b", 1)), (("a", 1), ("c", 1)), (("b", 0), ("c", 0))],
        )

    def test_all_readings(self):
        for row in rows_of("abcd"):
            line, ring = Line(row).links(), Ring(row).links()
            self.assertEqual(len(line), len(row) - 1)
            self.assertEqual(len(ring), len(row))
            for links in (line, ring):
                self.assertEqual(links, sorted(links))
                self.assertTrue(all([one < other for one, other in links]))
                ends = [end for link in links for end in link]
                self.assertEqual(len(set(ends)), len(ends))
            self.assertTrue(set(line) < set(ring))
            passed = [(name, side) for name, direction in row for side in ((0, 1) if direction == 1 else (1, 0))]
            inner = list(zip(passed[1::2], passed[2::2]))
            self.assertEqual(line, sorted([tuple(sorted(link)) for link in inner]))
            closing = tuple(sorted((passed[0], passed[-1])))
            self.assertEqual(ring, sorted(line + [closing]))

    def test_a_returned_list_may_be_changed(self):
        for train in (Line((("a", 1), ("b", 1))), Ring((("a", 1), ("b", 1)))):
            links = train.links()
            kept = list(links)
            links.append("more")
            links[0] = None
            self.assertEqual(train.links(), kept)
            self.assertIs(train.links().__class__, list)


class TextTest(Case):
    """Promise 4."""

    def test_text_is_that_of_the_normal_form(self):
        self.assertEqual(Line((("a", 1),)).text(), "a")
        self.assertEqual(Line((("a", -1),)).text(), "a")
        self.assertEqual(Ring((("a", -1),)).text(), "(a)")
        self.assertEqual(Line((("b", 1), ("a", -1))).text(), "a -b")
        self.assertEqual(Ring((("b", 1), ("a", -1))).text(), "(a -b)")
        self.assertEqual(Line((("c", 1), ("a", 1), ("b", -1))).text(), "b -a -c")
        self.assertEqual(Line((("a", -1), ("b", 1))).text(), "-a b")
        self.assertEqual(Line((("abcdefgh", 1), ("ab", -1))).text(), "ab -abcdefgh")

    def test_names_in_a_train(self):
        row = (("ab", 1), ("c", -1), ("a", 1))
        values = ANY_VALUES + [("c", -1), ("c", 0), ["c"], {"c": 1}, "b", "abc", "AB", "ab ", "ab c", row, Line(row)]
        for train in (Line(row), Ring(row)):
            for name in ("ab", "c", "a"):
                self.assertIs(name in train, True)
                self.assertIs(name not in train, False)
            for value in values:
                with self.subTest(value=value):
                    self.assertIs(value in train, value == "a")
                    self.assertIs(value not in train, value != "a")


class InterfaceTest(unittest.TestCase):
    """Promise 16."""

    def test_methods_stand_in_each_class_itself(self):
        for made in (Train, Line, Ring):
            for name in ("__init__", "row", "text", "links", "__eq__", "__len__", "__contains__"):
                self.assertIn(name, vars(made))
            self.assertEqual(made.__module__, "shuntplan.trains")
            self.assertIsInstance(vars(made)["row"], property)

    def test_functions_are_defined_here(self):
        for function in (is_name, is_end, is_row, turned):
            self.assertEqual(function.__module__, "shuntplan.trains")


if __name__ == "__main__":
    unittest.main()
