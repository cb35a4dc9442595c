"""Points [9] to [12]; promises 13 to 15 of the stage about counts, and the examples of their section."""

import math
import unittest

from shuntplan.compare import comparison
from shuntplan.counts import layout_at, layout_count, number_of, packed, plan_count, unpacked
from shuntplan.errors import InvalidBytes, InvalidLayout, InvalidNumber, MixedPaths
from shuntplan.layouts import Layout
from shuntplan.steps import Cut
from tests.samples import ANY_VALUES, NAMES, SMALL, Case, ends_of, scattered, steps_between
from tests.test_layouts import NO_NAME_LISTS

A0, A1, B0, B1 = ends_of("ab")
THIRTY = NAMES[:30]


def counts_by_hand():
    """The numbers of layouts of 0 to 30 wagons: of so many ends, the last one is free or coupled with another one."""
    found = [1, 1]
    while len(found) < 61:
        found.append(found[-1] + (len(found) - 1) * found[-2])
    return found[::2]


class ExampleTest(unittest.TestCase):
    def test_examples(self):
        self.assertEqual([layout_count(0), layout_count(1), layout_count(2), layout_count(3)], [1, 2, 10, 76])
        self.assertEqual(plan_count(Layout.read("a b c"), Layout.read("a / b / c")), 2)
        self.assertEqual(layout_at(["a"], 1).text(), "(a)")
        self.assertEqual(packed(Layout.read("(a)")), [1])
        self.assertEqual(unpacked(["a", "b"], [7]).text(), "(a -b)")


class PlanCountTest(Case):
    """Promise 13."""

    def test_by_a_count_through_all_layouts(self):
        for count in (0, 1, 2, 3):
            found = steps_between(count)
            for one in SMALL[count]:
                for other in SMALL[count]:
                    kinds = [part.kind for part in comparison(one, other)]
                    if "first" in kinds and "second" in kinds:
                        self.assert_refused(MixedPaths, {}, plan_count, one, other)
                    else:
                        self.assertEqual(plan_count(one, other), found[one.couplings, other.couplings][1])

    def assert_count(self, one, other, expected):
        self.assertEqual(plan_count(one, other), expected)
        self.assertEqual(plan_count(other=one, one=other), expected)
        self.assertIs(plan_count(one, other).__class__, int)

    def test_cycles(self):
        for count in range(1, 31):
            names = sorted(NAMES[:count])
            ring = Layout.read("(" + " ".join(names) + ")")
            apart = Layout(names, [((name, 0), (name, 1)) for name in names])
            self.assert_count(ring, apart, count ** (count - 2) if count > 1 else 1)

    def test_from_no_coupling(self):
        for count in range(1, 31):
            names = sorted(NAMES[:count])
            free = Layout(names)
            self.assert_count(free, Layout.read(" ".join(names)), math.factorial(count - 1))
            self.assert_count(free, Layout.read("(" + " ".join(names) + ")"), math.factorial(count))
            for seed in (1, 2):
                layout = scattered(names, seed, count // 2 * 2)
                self.assert_count(free, layout, math.factorial(len(layout)))

    def test_paths_and_cycles_together(self):
        self.assert_count(Layout.read("a b c"), Layout.read("a -b c"), 1)
        self.assert_count(Layout.read("a b c d"), Layout.read("a -b c -d"), 2)
        # A cycle of need 2 and a path of need 1: 3! * 3 / 2 * 1.
        self.assert_count(Layout.read("(a b c) / d"), Layout.read("(a) / (b) / (c) / (d)"), 9)
        # Paths of need 2 and of need 1: 3! * 3 / 2 * 1.
        one = Layout(["a", "b", "c"], [(A1, B0)])
        other = Layout(["a", "b", "c"], [(A0, A1), (B0, B1), (("c", 0), ("c", 1))])
        self.assertEqual([part.need for part in comparison(one, other)], [2, 1])
        self.assert_count(one, other, 9)
        # One path through all ends of 30 wagons.
        line = Layout.read(" ".join(THIRTY))
        apart = Layout(THIRTY, [((name, 0), (name, 1)) for name in THIRTY])
        self.assert_count(line, apart, 31 ** 29)
        # One path with an odd number of ends.
        shorter = Layout(THIRTY, apart.couplings[1:])
        self.assertEqual([part.need for part in comparison(line, shorter)], [0, 29])
        self.assert_count(line, shorter, 30 ** 28)

    def test_from_a_layout_to_itself(self):
        for layout in SMALL[0] + SMALL[2] + [scattered(THIRTY, 3, free) for free in (0, 10, 60)]:
            self.assert_count(layout, Layout(layout.wagons, layout.couplings), 1)

    def test_mixed_paths(self):
        for one, other in [
            ("a b", "b a"), ("a / (b)", "(a) / b"), ("a b / (c)", "(a b) / c"), ("a b / c d", "-a c / (b) / d"),
        ]:
            self.assert_refused(MixedPaths, {}, plan_count, Layout.read(one), Layout.read(other))
        line, shifted = " ".join(THIRTY), " ".join(THIRTY[1:] + THIRTY[:1])
        self.assert_refused(MixedPaths, {}, plan_count, Layout.read(line), Layout.read(shifted))


class NumberTest(Case):
    """Promise 14."""

    def test_all_layouts_in_their_order(self):
        for count, layouts in enumerate(SMALL):
            self.assertEqual(layout_count(count), len(layouts))
            for number, layout in enumerate(layouts):
                self.assertEqual(number_of(layout), number)
                self.assertIs(number_of(layout=layout).__class__, int)
                for wagons in (layout.wagons, list(layout.wagons), list(layout.wagons)[::-1], layout.wagons[::-1]):
                    self.assertEqual(layout_at(wagons, number), layout)

    def test_the_order_of_two_wagons(self):
        texts = [layout_at(["b", "a"], number).text() for number in range(10)]
        self.assertEqual(texts, [
            "a / b", "a / (b)", "a b", "a -b", "(a) / b", "(a) / (b)", "-a b", "(a -b)", "-a -b", "(a b)",
        ])

    def test_names_of_several_letters(self):
        self.assertEqual(layout_at(["b", "ab"], 2).text(), "ab b")
        self.assertEqual(number_of(Layout.read("ab b")), 2)
        self.assertEqual(number_of(Layout.read("b abc")), 8)

    def test_the_first_and_the_last_number(self):
        for count in range(31):
            names = NAMES[:count]
            self.assertEqual(layout_at(wagons=names[::-1], number=0), Layout(names))
            self.assertEqual(number_of(Layout(names)), 0)
            last = layout_at(number=layout_count(count) - 1, wagons=tuple(names))
            # The first end with the last one, and so on inwards.
            ends = ends_of(names)
            self.assertEqual(last, Layout(names, list(zip(ends[:count], ends[::-1]))))
            self.assertEqual(number_of(last), layout_count(count) - 1)

    def test_there_and_back(self):
        for count in range(4, 31):
            for free in (0, 2, 6):
                layout = scattered(NAMES[:count], count, free)
                self.assertEqual(layout_at(NAMES[:count], number_of(layout)), layout)
            for part in range(1, 8):
                number = layout_count(count) * part // 8
                self.assertEqual(number_of(layout_at(NAMES[:count], number)), number)

    def test_counts(self):
        for count, expected in enumerate(counts_by_hand()):
            self.assertEqual(layout_count(wagons=count), expected)
        self.assertEqual([layout_count(4), layout_count(5), layout_count(8)], [764, 9496, 46206736])

    def test_no_count_of_wagons(self):
        for value in ANY_VALUES + [31, 32, -2, "1", [1]]:
            if value.__class__ is int and 0 <= value <= 30:
                self.assertEqual(layout_count(value), counts_by_hand()[value])
            else:
                self.assert_refused(InvalidNumber, {"value": value}, layout_count, value)

    def test_layout_at_refuses_wagons_as_layout_does(self):
        for value in NO_NAME_LISTS:
            self.assert_refused(InvalidLayout, {"value": value}, layout_at, value, 0)
            self.assert_refused(InvalidLayout, {"value": value}, layout_at, value, -1)
            self.assert_refused(InvalidLayout, {"value": value}, layout_at, number=None, wagons=value)

    def test_layout_at_refuses_numbers(self):
        for count in (0, 1, 2, 30):
            for value in ANY_VALUES + [layout_count(count), layout_count(count) + 1, 10 ** 60 - 1, "0", 76 ** 30]:
                if value.__class__ is int and 0 <= value < layout_count(count):
                    self.assertEqual(number_of(layout_at(NAMES[:count], value)), value)
                else:
                    self.assert_refused(InvalidNumber, {"value": value}, layout_at, NAMES[:count], value)

    def test_number_of_refuses_what_is_no_layout(self):
        for value in ANY_VALUES + [Cut(A0), [Layout(["a"])]]:
            self.assert_refused(InvalidLayout, {"value": value}, number_of, value)


class PackedTest(Case):
    """Promise 15."""

    def test_small_layouts(self):
        for count, layouts in enumerate(SMALL):
            for number, layout in enumerate(layouts):
                expected = [number] if count > 0 else []
                self.assertEqual(packed(layout), expected)
                self.assertEqual(unpacked(NAMES[:count], expected), layout)
                self.assertEqual(unpacked(layout.wagons[::-1], tuple(expected)), layout)

    def test_two_bytes(self):
        for number in (0, 1, 255, 256, 257, 511, 512, 763):
            layout = layout_at(list("dbca"), number)
            self.assertEqual(packed(layout=layout), [number // 256, number - number // 256 * 256])
            self.assertEqual(unpacked(values=packed(layout), wagons=list("abdc")), layout)

    def test_as_few_bytes_as_the_greatest_number_needs(self):
        for count, many in enumerate(counts_by_hand()):
            length = 0
            while 256 ** length < many:
                length += 1
            last = layout_at(NAMES[:count], many - 1)
            for layout, number in ((Layout(NAMES[:count]), 0), (last, many - 1)):
                values = packed(layout)
                self.assertEqual(values, list(number.to_bytes(length, "big")))
                self.assertTrue(all([value.__class__ is int for value in values]))
                self.assertEqual(unpacked(NAMES[:count], values), layout)

    def test_there_and_back(self):
        for count in range(4, 31):
            for free in (0, 4):
                layout = scattered(NAMES[:count], count + 1, free)
                values = packed(layout)
                self.assertEqual(int.from_bytes(values, "big"), number_of(layout))
                for wagons in (NAMES[:count], layout.wagons):
                    self.assertEqual(unpacked(wagons, tuple(values)), layout)

    def test_a_new_list_each_time(self):
        for layout in (Layout.read("a"), Layout.read("a b c d"), Layout([])):
            values = packed(layout)
            self.assertIs(values.__class__, list)
            values.append(9)
            self.assertEqual(packed(layout), values[:-1])

    def test_packed_refuses_what_is_no_layout(self):
        for value in ANY_VALUES + [Cut(A0), [Layout(["a"])]]:
            self.assert_refused(InvalidLayout, {"value": value}, packed, value)

    def test_unpacked_refuses_wagons_as_layout_does(self):
        for value in NO_NAME_LISTS:
            self.assert_refused(InvalidLayout, {"value": value}, unpacked, value, [0])
            self.assert_refused(InvalidLayout, {"value": value}, unpacked, values=None, wagons=value)

    def test_unpacked_refuses_values(self):
        wrong = [
            [2], [256], [-1], [True], [False], ["1"], [None], [[1]], [0, 0], [0, 1], (2,), {1}, {0: 1}, "\x01", [1.0],
            b"\x01", [Layout(["a"])], Layout(["a"]),
        ]
        for value in wrong + [value for value in ANY_VALUES if value not in ([1], (1,))]:
            self.assert_refused(InvalidBytes, {"value": value}, unpacked, ["a"], value)
        for value in wrong + [value for value in ANY_VALUES if value not in ([], ())] + [[0], (0,)]:
            self.assert_refused(InvalidBytes, {"value": value}, unpacked, [], value)
        for value in wrong + ANY_VALUES + [
            [764 // 256, 764 - 512], [3, 0], [255, 255], [0, 256], [0, -1], [1, -1], [0, True], [False, 0], [0, None],
            [0], [0, 0, 0], [2, 253], [-1, 256], [3, -256], "ab", [0, "0"],
        ]:
            if value != [0, 1] and value != [0, 0]:
                self.assert_refused(InvalidBytes, {"value": value}, unpacked, list("abcd"), value)

    def test_edges_of_what_is_taken(self):
        self.assertEqual(unpacked(list("abcd"), [2, 251]), layout_at(list("abcd"), 763))
        self.assertEqual(unpacked(["a"], [0]), Layout(["a"]))
        self.assertEqual(unpacked([], ()), Layout([]))


if __name__ == "__main__":
    unittest.main()
