"""Points [9] and [10]; promises 7 to 12 of the stage about comparisons, and the examples of their section."""

import unittest

from shuntplan.compare import Component, best_next, comparison, distance, is_plan, plan
from shuntplan.counts import number_of, plan_count
from shuntplan.errors import InvalidLayout, OtherWagons, TooLarge
from shuntplan.layouts import Layout
from shuntplan.steps import Cut
from tests.samples import ANY_VALUES, NAMES, SMALL, Case, around, ends_of, scattered, steps_between

A0, A1, B0, B1, C0, C1, D0, D1 = ends_of("abcd")
LETTER_PAIRS = [(one, other) for layouts in SMALL[:3] for one in layouts for other in layouts]
LARGE_PAIRS = [
    (scattered(NAMES[:count], seed, free), scattered(NAMES[:count], seed + 100, other_free))
    for count in (4, 8, 9, 17, 30) for seed in (1, 2, 3) for free in (0, 2, 6) for other_free in (0, 4, 8)
] + [(scattered(NAMES[:30], 1, free), scattered(NAMES[:30], 1, 60 - free)) for free in (0, 20, 60)]


def parts_by_hand(one, other):
    """The sets of ends of the components: ends join as long as a coupling goes from one set to another."""
    parts = [{end} for end in ends_of(one.wagons)]
    for start, end in one.couplings + other.couplings:
        joined = [part for part in parts if start in part or end in part]
        parts = [part for part in parts if part not in joined] + [set().union(*joined)]
    return sorted(parts, key=min)


def kind_by_hand(part, one, other):
    if len(part) % 2 == 1:
        return "odd"
    if any([one[end] is None for end in part]):
        return "first"
    return "second" if any([other[end] is None for end in part]) else "cycle"


def distance_by_hand(one, other):
    """The first formula of point [10]."""
    kinds = [kind_by_hand(part, one, other) for part in parts_by_hand(one, other)]
    halves = divmod(kinds.count("odd"), 2)
    assert halves[1] == 0
    return len(one.wagons) - kinds.count("cycle") - halves[0]


class ExampleTest(unittest.TestCase):
    def test_examples(self):
        kinds = [part.kind for part in comparison(Layout.read("a b"), Layout.read("(a b)"))]
        self.assertEqual(kinds, ["first", "cycle"])
        self.assertEqual(distance(Layout.read("a b c"), Layout.read("a -b c")), 1)
        texts = [layout.text() for layout in plan(Layout.read("a b"), Layout.read("a / b"))]
        self.assertEqual(texts, ["a b", "a / b"])


class ComparisonTest(Case):
    """Promise 7."""

    def assert_parts(self, one, other, expected):
        parts = comparison(Layout.read(one), Layout.read(other))
        self.assertEqual([(part.kind, part.need, part.ends) for part in parts], expected)

    def test_known_pairs(self):
        self.assert_parts("", "", [])
        self.assert_parts("a", "a", [("odd", 0, (A0,)), ("odd", 0, (A1,))])
        self.assert_parts("(a)", "(a)", [("cycle", 0, (A0, A1))])
        self.assert_parts("a", "(a)", [("first", 1, (A0, A1))])
        self.assert_parts("(a)", "a", [("second", 1, (A0, A1))])
        self.assert_parts("(a b)", "(a) / (b)", [("cycle", 1, (A0, B1, B0, A1))])
        self.assert_parts("(a) / (b)", "(a b)", [("cycle", 1, (A0, A1, B0, B1))])
        self.assert_parts("a b", "b a", [("first", 1, (A0, B1)), ("second", 1, (A1, B0))])
        self.assert_parts("a b", "a -b", [("odd", 0, (A0,)), ("odd", 1, (B0, A1, B1))])

    def test_a_path_begins_with_the_lesser_outer_end(self):
        self.assert_parts("a b / c", "a -b / c", [
            ("odd", 0, (A0,)), ("odd", 1, (B0, A1, B1)), ("odd", 0, (C0,)), ("odd", 0, (C1,)),
        ])
        # b1-c1 and a0-a1 against a1-b1 and, free there, a0, b0, c0, c1: hence a0, a1, b1, c1.
        self.assert_parts("b -c / (a)", "a -b / c", [
            ("second", 2, (A0, A1, B1, C1)), ("odd", 0, (B0,)), ("odd", 0, (C0,)),
        ])

    def test_paths_whose_least_end_is_within(self):
        one = Layout(["a", "b", "c"], [(A0, C0), (A1, B0)])
        other = Layout(["a", "b", "c"], [(A0, B1), (A1, C1)])
        found = [(part.kind, part.need, part.ends) for part in comparison(one, other)]
        self.assertEqual(found, [("odd", 1, (B1, A0, C0)), ("odd", 1, (B0, A1, C1))])
        even = comparison(Layout(["a", "b", "c"], [(A0, C1)]), Layout(["a", "b", "c"], [(A0, C0), (B1, C1)]))
        found = [(part.kind, part.need, part.ends) for part in even]
        self.assertEqual(found, [
            ("first", 2, (B1, C1, A0, C0)), ("odd", 0, (A1,)), ("odd", 0, (B0,)),
        ])

    def test_a_cycle_goes_on_with_the_partner_in_the_first_layout(self):
        one = Layout(["a", "b", "c"], [(A0, C1), (A1, B0), (B1, C0)])
        other = Layout(["a", "b", "c"], [(A0, A1), (B0, B1), (C0, C1)])
        self.assertEqual(comparison(one, other)[0].ends, (A0, C1, C0, B1, B0, A1))
        self.assertEqual(comparison(other, one)[0].ends, (A0, A1, B0, B1, C0, C1))

    def test_parts_of_many_pairs(self):
        for one, other in LETTER_PAIRS + LARGE_PAIRS:
            parts = comparison(one, other)
            self.assertEqual([set(part.ends) for part in parts], parts_by_hand(one, other))
            for part in parts:
                self.assertIs(part.__class__, Component)
                self.assertIs(part.ends.__class__, tuple)
                self.assertEqual(part.kind, kind_by_hand(part.ends, one, other))
                self.assertEqual(part.need, len(part) // 2 - (1 if part.kind == "cycle" else 0))
                self.assertEqual(len(part), len(part.ends))
                self.assertEqual(len(part), len(set(part.ends)))
                self.assert_order(part, one, other)

    def assert_order(self, part, one, other):
        ends = part.ends
        if part.kind == "cycle":
            self.assertEqual(ends[0], min(ends))
            layouts = [one, other] * len(ends)
            self.assertEqual(other[ends[-1]], ends[0])
        else:
            self.assertLessEqual(ends[0], ends[-1])
            layouts = [other, one] * len(ends) if one[ends[0]] is None else [one, other] * len(ends)
            self.assertIsNone(layouts[len(ends) - 1][ends[-1]])
        for layout, end, after in zip(layouts, ends, ends[1:]):
            self.assertEqual(layout[end], after)

    def test_equal_only_by_kind_and_ends(self):
        found = []
        for one, other in LETTER_PAIRS:
            found += [part for part in comparison(one, other)]
        for part in found[:60]:
            for again in found:
                same = part.kind == again.kind and part.ends == again.ends
                self.assertIs(part == again, same)
                self.assertIs(part != again, not same)
        path = comparison(Layout.read("a"), Layout.read("(a)"))[0]
        for text, after in [("(a)", "a"), ("(a)", "(a)")]:
            part = comparison(Layout.read(text), Layout.read(after))[0]
            self.assertEqual(part.ends, path.ends)
            self.assertIs(part == path, False)

    def test_equal_to_no_other_value(self):
        part = comparison(Layout.read("a"), Layout.read("(a)"))[0]
        others = [part.ends, list(part.ends), part.kind, (part.kind, part.ends), Layout.read("(a)"), Cut(A0)]
        for value in ANY_VALUES + others:
            self.assertIs(part == value, False)
            self.assertIs(value == part, False)
            self.assertIs(part != value, True)

    def test_the_class_has_its_own_parts(self):
        for name in ("kind", "need", "ends", "__len__", "__eq__"):
            self.assertIn(name, vars(Component))

    def test_a_new_list_each_time(self):
        one, other = Layout.read("a b"), Layout.read("(a b)")
        found = comparison(one, other)
        self.assertIs(found.__class__, list)
        found.clear()
        self.assertEqual(len(comparison(one=one, other=other)), 2)


class DistanceTest(unittest.TestCase):
    """Promise 8."""

    def test_by_a_search_through_all_layouts(self):
        for count in (1, 2, 3):
            found = steps_between(count)
            for one in SMALL[count]:
                for other in SMALL[count]:
                    self.assertEqual(distance(one, other), found[one.couplings, other.couplings][0])

    def test_by_the_formula(self):
        for one, other in LARGE_PAIRS:
            self.assertEqual(distance(one, other), distance_by_hand(one, other))
            self.assertEqual(distance(other=one, one=other), distance_by_hand(one, other))
            self.assertIs(distance(one, other).__class__, int)

    def test_zero_exactly_for_equal_layouts(self):
        for one, other in LETTER_PAIRS:
            self.assertIs(distance(one, other) == 0, one == other)
        for one, other in LARGE_PAIRS:
            self.assertGreater(distance(one, other), 0)
            self.assertEqual(distance(one, Layout(one.wagons, one.couplings)), 0)
        self.assertEqual(distance(Layout([]), Layout([])), 0)

    def test_known_pairs_of_thirty_wagons(self):
        names = NAMES[:30]
        line, apart = Layout.read(" ".join(names)), Layout(names)
        rings = Layout(names, [((name, 0), (name, 1)) for name in names])
        ring = Layout.read("(" + " ".join(names) + ")")
        for one, other, expected in [(line, apart, 29), (rings, apart, 30), (line, rings, 30), (ring, rings, 29)]:
            self.assertEqual(distance(one, other), expected)
            self.assertEqual(distance(other, one), expected)


class PlanTest(unittest.TestCase):
    """Promise 9."""

    def assert_shortest(self, one, other):
        layouts = plan(one, other)
        self.assertIs(layouts.__class__, list)
        self.assertEqual((layouts[0], layouts[-1]), (one, other))
        self.assertEqual(len(layouts) - 1, distance_by_hand(one, other))
        for before, after in zip(layouts, layouts[1:]):
            self.assertIs(after.__class__, Layout)
            self.assertIn(after.couplings, around(before))
            self.assertEqual(before.wagons, after.wagons)

    def test_small_layouts(self):
        for one, other in LETTER_PAIRS:
            self.assert_shortest(one, other)
        for one in SMALL[3][::7]:
            for other in SMALL[3]:
                self.assert_shortest(one, other)

    def test_large_layouts(self):
        for one, other in LARGE_PAIRS[::5]:
            if len(one.wagons) < 10:
                self.assert_shortest(one, other)
        self.assert_shortest(Layout.read(" ".join(NAMES[:30])), scattered(NAMES[:30], 1, 40))

    def test_thirty_wagons(self):
        for one, other in LARGE_PAIRS:
            layouts = plan(other=other, one=one)
            self.assertEqual((layouts[0], layouts[-1]), (one, other))
            self.assertEqual(len(layouts) - 1, distance_by_hand(one, other))
            self.assertTrue(is_plan(layouts))

    def test_from_a_layout_to_itself(self):
        for layout in SMALL[2] + [Layout([]), scattered(NAMES[:30], 4, 2)]:
            self.assertEqual(plan(layout, Layout(layout.wagons, layout.couplings)), [layout])

    def test_a_new_list_each_time(self):
        one, other = Layout.read("a b c"), Layout.read("c / (a) / b")
        found = plan(one, other)
        steps = len(found)
        found.clear()
        self.assertEqual(len(plan(one, other)), steps)


class BestNextTest(Case):
    """Promise 10."""

    def test_small_layouts(self):
        for count in (0, 1, 2, 3):
            found = steps_between(count)
            for one in SMALL[count]:
                near = around(one)
                for other in SMALL[count][:: count or 1]:
                    before = found[one.couplings, other.couplings][0]
                    expected = [
                        layout for layout in SMALL[count]
                        if layout.couplings in near and found[layout.couplings, other.couplings][0] < before
                    ]
                    self.assertEqual(best_next(one, other), expected)

    def test_up_to_eight_wagons(self):
        for count in (4, 8):
            for free in (0, 4):
                one, other = scattered(NAMES[:count], 1, free), scattered(NAMES[:count], 2, 4 - free)
                found = best_next(other=other, one=one)
                numbers = [number_of(layout) for layout in found]
                self.assertEqual(numbers, sorted(set(numbers)))
                nearer = [
                    couplings for couplings in around(one)
                    if distance_by_hand(Layout(one.wagons, couplings), other) < distance_by_hand(one, other)
                ]
                self.assertEqual(sorted([layout.couplings for layout in found]), sorted(nearer))

    def test_equal_layouts(self):
        for layout in SMALL[2] + [Layout([]), scattered(NAMES[:8], 1, 4)]:
            self.assertEqual(best_next(layout, layout), [])

    def test_a_new_list_each_time(self):
        one, other = Layout.read("a b"), Layout.read("a / b")
        found = best_next(one, other)
        self.assertIs(found.__class__, list)
        found.clear()
        self.assertEqual(best_next(one, other), [other])

    def test_more_than_eight_wagons(self):
        for count in (9, 12, 30):
            layout, apart = scattered(NAMES[:count], 1, 2), Layout(NAMES[:count])
            for one, other in [(layout, apart), (apart, layout), (layout, layout), (apart, apart)]:
                self.assert_refused(TooLarge, {"limit": 8}, best_next, one, other)
        for other in (Layout(NAMES[1:10]), Layout(["a"]), Layout([])):
            self.assert_refused(OtherWagons, {}, best_next, Layout(NAMES[:9]), other)
            self.assert_refused(OtherWagons, {}, best_next, other, Layout(NAMES[:9]))
        self.assert_refused(InvalidLayout, {"value": None}, best_next, Layout(NAMES[:9]), None)
        self.assert_refused(InvalidLayout, {"value": None}, best_next, None, Layout(NAMES[:9]))


class IsPlanTest(unittest.TestCase):
    """Promise 11."""

    def assert_plan(self, expected, *layouts):
        for value in (list(layouts), tuple(layouts)):
            self.assertIs(is_plan(value), expected)
            self.assertEqual(value, value.__class__(layouts))
        self.assertIs(is_plan(value=list(layouts)), expected)

    def test_plans(self):
        layouts = [Layout.read(text) for text in ("a b c", "a -b c", "a -b / c", "a / b / c", "a b / c", "a b c")]
        for start in range(len(layouts)):
            for stop in range(start + 1, len(layouts) + 1):
                self.assert_plan(True, *layouts[start:stop])
        self.assert_plan(True, *layouts[::-1])
        self.assert_plan(True, Layout([]))
        for layout in SMALL[2]:
            self.assert_plan(True, layout)

    def test_no_plans(self):
        one, two, three = [Layout.read(text) for text in ("a b c", "a b / c", "a / b / c")]
        other, none = Layout.read("a b"), Layout([])
        self.assert_plan(False)
        self.assert_plan(False, one, one)
        self.assert_plan(False, none, none)
        self.assert_plan(False, one, two, two, three)
        self.assert_plan(False, one, three)
        self.assert_plan(False, two, one, three)
        self.assert_plan(False, other, Layout.read("a / b / c"))
        self.assert_plan(False, one, two, other)
        self.assert_plan(False, other, one, two)
        self.assert_plan(False, Layout.read("a b / c"), Layout.read("a / b"))
        self.assert_plan(False, one, Layout.read("a b / d"))

    def test_all_pairs(self):
        for layouts in SMALL[:3]:
            for one in layouts:
                for other in layouts:
                    self.assert_plan(other.couplings in around(one), one, other)

    def test_any_value(self):
        one, two = Layout.read("a b c"), Layout.read("a b / c")
        self.assertIs(is_plan(one), False)
        for value in ANY_VALUES + [Cut(A0), {"a": one}, {0: one}]:
            self.assertIs(is_plan(value), False)
            self.assert_plan(False, value)
            self.assert_plan(False, one, value)
            self.assert_plan(False, value, one)
            self.assert_plan(False, one, two, value)
            self.assert_plan(False, one, value, two)
        self.assert_plan(False, [one], [two])

    def test_thirty_wagons(self):
        one, other = LARGE_PAIRS[-4]
        layouts = plan(one, other)
        self.assertEqual(len(one.wagons), 30)
        self.assert_plan(True, *layouts)
        self.assertGreater(len(layouts), 12)
        # A shortest plan is not one any more if a layout is left out.
        for place in range(1, len(layouts) - 1):
            self.assert_plan(False, *layouts[:place], *layouts[place + 1:])


class RefusedTest(Case):
    """Promise 12."""

    def test_wrong_values(self):
        layout, small = Layout.read("a b"), Layout.read("a")
        for call in (comparison, distance, plan, best_next, plan_count):
            for value in ANY_VALUES + [Cut(A0), [layout], (layout, layout)]:
                self.assert_refused(InvalidLayout, {"value": value}, call, value, layout)
                self.assert_refused(InvalidLayout, {"value": value}, call, layout, value)
                self.assert_refused(InvalidLayout, {"value": value}, call, value, 17)
                self.assert_refused(InvalidLayout, {"value": value}, call, other=[], one=value)
            for one, other in [(layout, small), (small, layout), (small, Layout([])), (small, Layout(["b"]))]:
                self.assert_refused(OtherWagons, {}, call, one, other)


if __name__ == "__main__":
    unittest.main()
