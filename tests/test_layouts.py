"""Points [5] to [7]; promises 6 to 11, 13, 14 and 16 of the stage about layouts."""

import itertools
import unittest

from shuntplan.errors import InvalidCoupling, InvalidEnd, InvalidLayout, NoWagon, OtherWagons, TooLarge
from shuntplan.layouts import Layout, common, difference
from shuntplan.trains import Line, Ring, Train
from tests.samples import ANY_VALUES, NAMES, Case, all_layouts, ends_of, straight

A0, A1, B0, B1, C0, C1 = ends_of("abc")

NO_NAME_LISTS = [
    None, True, 0, "a", "", {}, {"a": 1}, ["a", 1], ["a", "A"], ["a", ""], ["a", "abcdefghi"], ["a", "b\n"], [["a"]],
    [("a", 0)], [None], [{}], ["a", "b", "a"], ("a", "a"), ("a", None), NAMES[:31], tuple(NAMES[:31]), NAMES + NAMES,
]

# Things that cannot be added to a layout of a and b in which the front of a is coupled with the back of b.
NO_COUPLINGS = [
    None, True, 0, "", "ab", (), [], {}, (A1,), (A1, B0, B0), [A1, B0], (A1, A1), (A1, None), (None, A1),
    (A1, ["b", 0]), (A1, ("b", False)), (("a", True), B0), (A1, ("b", 2)), (A1, ("b", -1)),
    (A1, C0), (C0, A1), (C0, C1), (A0, A1), (A1, A0), (B1, B0), (A1, B1), (A0, B1), (B1, A0),
    ("a", "b"), ("a", 0), A1, (A1, ("B", 0)), ({}, A1), (A1, []),
]


def reference_rows(layout):
    """All readings of the trains, found by walking in an own way: pairs of rows and whether they are rings."""
    found = []
    for name, direction in itertools.product(layout.wagons, (1, -1)):
        row, closed = [(name, direction)], False
        while True:
            leaving = (row[-1][0], 1 if row[-1][1] == 1 else 0)
            coming = layout[leaving]
            if coming is None:
                break
            wagon = (coming[0], 1 if coming[1] == 0 else -1)
            if wagon == row[0]:
                closed = True
                break
            row.append(wagon)
        if closed or layout[(name, 0 if direction == 1 else 1)] is None:
            found.append((tuple(row), closed))
    return found


class MadeTest(Case):
    """Promise 6."""

    def test_parts_are_ascending_tuples(self):
        for kind in (list, tuple):
            for ring in itertools.permutations([(C0, B0), (A1, B1), (C1, A0)]):
                for turn in itertools.product((1, -1), repeat=3):
                    couplings = kind([pair[::way] for pair, way in zip(ring, turn)])
                    layout = Layout(kind(["c", "a", "b"]), couplings)
                    self.assertEqual(layout.wagons, ("a", "b", "c"))
                    self.assertEqual(layout.couplings, ((A0, C1), (A1, B1), (B0, C0)))
                    self.assertEqual(layout.free, ())
                    self.assertEqual(len(layout), 3)

    def test_free_ends(self):
        layout = Layout(["b", "a", "c"], [(B0, A1)])
        self.assertEqual(layout.free, (A0, B1, C0, C1))
        self.assertEqual(layout.couplings, ((A1, B0),))
        self.assertEqual(len(layout), 1)

    def test_couplings_may_be_left_out(self):
        layout = Layout(["b", "a"])
        self.assertEqual((layout.couplings, layout.free), ((), (A0, A1, B0, B1)))
        self.assertEqual(len(layout), 0)
        self.assertEqual(Layout(wagons=["b", "a"], couplings=[]), layout)

    def test_both_ends_of_one_wagon(self):
        layout = Layout(("a",), ((A1, A0),))
        self.assertEqual((layout.couplings, layout.free), (((A0, A1),), ()))

    def test_plain_tuples(self):
        layout = Layout(["b", "a"], [(B0, A1)])
        for value in (layout.wagons, layout.couplings, layout.free, layout.couplings[0], layout.free[0]):
            self.assertIs(value.__class__, tuple)
        for name in ("wagons", "couplings", "free"):
            with self.assertRaises(AttributeError):
                setattr(layout, name, ())

    def test_what_was_passed_stays_and_is_copied(self):
        wagons, couplings = ["b", "a"], [(B0, A1)]
        layout = Layout(wagons, couplings)
        self.assertEqual((wagons, couplings), (["b", "a"], [(B0, A1)]))
        wagons.append("c")
        couplings.clear()
        self.assertEqual((layout.wagons, layout.couplings), (("a", "b"), ((A1, B0),)))
        self.assertEqual((layout.text(), layout.free, layout[A1]), ("a b", (A0, B1), B0))

    def test_many_wagons(self):
        self.assertEqual(Layout([]).wagons, ())
        self.assertEqual(Layout((), ()).free, ())
        names = NAMES[:30]
        couplings = [((one, 1), (other, 0)) for one, other in zip(names, names[1:])]
        self.assertEqual(len(Layout(names, couplings)), 29)
        self.assertEqual(Layout(names, couplings).wagons, tuple(sorted(names)))
        self.assertEqual(len(Layout(names, couplings).free), 2)


class RefusedTest(Case):
    """Promise 7."""

    def test_wagons(self):
        for value in NO_NAME_LISTS:
            with self.subTest(value=value):
                self.assert_refused(InvalidLayout, {"value": value}, Layout, value)
                self.assert_refused(InvalidLayout, {"value": value}, Layout, value, None)
                self.assert_refused(InvalidLayout, {"value": value}, Layout, couplings=[None], wagons=value)

    def test_couplings_that_are_no_list(self):
        for value in [None, True, 0, 1, "", "ab", {}, {(A1, B0): 1}]:
            with self.subTest(value=value):
                self.assert_refused(InvalidCoupling, {"value": value}, Layout, ["a", "b"], value)
                self.assert_refused(InvalidCoupling, {"value": value}, Layout, wagons=[], couplings=value)

    def test_first_thing_that_cannot_be_added(self):
        for value in NO_COUPLINGS:
            with self.subTest(value=value):
                for couplings in ([(B1, A0), value], ((A0, B1), value, None), [(A0, B1), value, (A1, B0)]):
                    self.assert_refused(InvalidCoupling, {"value": value}, Layout, ["b", "a"], couplings)

    def test_couplings_of_no_wagons(self):
        thing = (A0, A1)
        self.assert_refused(InvalidCoupling, {"value": thing}, Layout, [], [thing])

    def test_a_single_coupling_is_no_list_of_them(self):
        pair = (A1, B0)
        self.assert_refused(InvalidCoupling, {"value": A1}, Layout, ["a", "b"], pair)

    def test_the_thing_is_the_one_that_was_passed(self):
        first, second = (B0, A1), (B0, A0)
        self.assert_refused(InvalidCoupling, {"value": second}, Layout, ["a", "b"], [first, second, [], first])


class LookTest(Case):
    """Promise 8."""

    def test_partners(self):
        layout = Layout(["a", "b", "c"], [(B0, A1), (C1, C0)])
        self.assertEqual([layout[end] for end in ends_of("abc")], [None, B0, A1, None, C1, C0])
        self.assertEqual(layout["a", 1], B0)

    def test_no_end(self):
        layout = Layout(["a", "b"], [(B0, A1)])
        for value in ANY_VALUES + [("a", True), ("a", False), ("a", 2), ("a", -1), ["a", 0], ("A", 0), ("a", 0, 0)]:
            with self.subTest(value=value):
                self.assert_refused(InvalidEnd, {"value": value}, layout.__getitem__, value)

    def test_no_wagon(self):
        for end in (("c", 0), ("c", 1), ("ab", 0)):
            self.assert_refused(NoWagon, {"name": end[0]}, Layout(["a", "b"]).__getitem__, end)
        self.assert_refused(NoWagon, {"name": A0[0]}, Layout([]).__getitem__, A0)

    def test_couplings_in_a_layout(self):
        for layout in all_layouts("ab"):
            for one, other in itertools.product(ends_of("abc"), repeat=2):
                expected = (one, other) in layout.couplings or (other, one) in layout.couplings
                self.assertIs((one, other) in layout, expected)
                self.assertIs((one, other) not in layout, not expected)

    def test_other_values_are_not_in_a_layout(self):
        layout = Layout(["a", "b"], [(A1, B0), (A0, B1)])
        others = [[A1, B0], (A1, B0, A1), (A1,), A1, "a", (["a", 1], B0), (("a", True), B0), (A1, ("b", False)), layout,
                  (A1, None), (None, None), (A1, A1), ("a", "b"), {A1: B0}, ((A1, B0),), "a b", (C0, None), ([], [])]
        for value in ANY_VALUES + others:
            with self.subTest(value=value):
                expected = value == (("a", 0), ("b", 1))
                self.assertIs(value in layout, expected)
                self.assertIs(value not in layout, not expected)
                self.assertIs(value in Layout([]), False)


class EqualTest(Case):
    """Promise 9."""

    def test_equal_exactly_with_wagons_and_couplings(self):
        layouts = all_layouts("ab") + all_layouts("a") + all_layouts("b") + all_layouts("")
        for (place, one), (at, other) in itertools.product(enumerate(layouts), repeat=2):
            self.assertIs(one == other, place == at)
            self.assertIs(one != other, place != at)
        for layout in layouts:
            again = Layout(layout.wagons[::-1], [(two, one) for one, two in layout.couplings[::-1]])
            self.assertIs(layout == again, True)
            self.assertIs(layout != again, False)

    def test_equal_to_no_other_value(self):
        for layout in all_layouts("a") + all_layouts(""):
            others = [layout.text(), layout.wagons, layout.couplings, list(layout.trains()), Line((("a", 1),)), []]
            for value in ANY_VALUES + others:
                self.assertIs(layout == value, False)
                self.assertIs(value == layout, False)
                self.assertIs(layout != value, True)


class TrainsTest(Case):
    """Promises 10 and 14."""

    def test_examples(self):
        layout = Layout(["d", "c", "b", "a"], [(("d", 1), ("b", 0)), (C0, C1)])
        self.assertEqual(list(layout.trains()), [Line((("a", 1),)), Line((("b", -1), ("d", -1))), Ring((("c", 1),))])
        self.assertEqual(layout.text(), "a / -b -d / (c)")
        self.assertEqual(Layout([]).text(), "")
        self.assertEqual(list(Layout([]).trains()), [])

    def test_order_is_that_of_the_least_wagons(self):
        layout = Layout.of(Line(straight("bec")), Line(straight("dag")), Ring(straight("f")))
        self.assertEqual(layout.text(), "d a g / b e c / (f)")

    def test_anew_each_time(self):
        layout = Layout(["a", "b"])
        walk = layout.trains()
        self.assertIs(iter(walk), walk)
        self.assertEqual(next(walk), Line((("a", 1),)))
        self.assertEqual([train.text() for train in layout.trains()], ["a", "b"])
        self.assertEqual([train.text() for train in walk], ["b"])
        self.assertEqual([train.text() for train in layout.trains()], ["a", "b"])

    def test_all_small_layouts(self):
        for many, expected in enumerate([1, 2, 10, 76]):
            layouts = all_layouts("abc"[:many])
            self.assertEqual(len(layouts), expected)
            self.assertEqual(len({layout.text() for layout in layouts}), expected)
            for layout in layouts:
                self.check_trains(layout)
                self.assertEqual(Layout.read(layout.text()), layout)
                self.assertEqual(Layout.read(text=layout.text()).text(), layout.text())

    def test_larger_layouts(self):
        for layout in all_layouts("abcd")[::5]:
            self.check_trains(layout)

    def check_trains(self, layout):
        trains = list(layout.trains())
        names = [name for train in trains for name, _ in train.row]
        self.assertEqual(sorted(names), list(layout.wagons))
        leasts = [min([name for name, _ in train.row]) for train in trains]
        self.assertEqual(leasts, sorted(leasts))
        links = [link for train in trains for link in train.links()]
        self.assertEqual(tuple(sorted(links)), layout.couplings)
        self.assertEqual(len(layout.free), 2 * len([train for train in trains if isinstance(train, Line)]))
        self.assertEqual(layout.text(), " / ".join([train.text() for train in trains]))
        readings = reference_rows(layout)
        for train in trains:
            self.assertIn(train.__class__, (Line, Ring))
            self.assertIn((train.row, isinstance(train, Ring)), readings)
        for order in itertools.permutations(trains):
            self.assertEqual(Layout.of(*order), layout)
        self.assertEqual({end for link in layout.couplings for end in link} | set(layout.free), set(ends_of(names)))


class OfTest(Case):
    """Promise 11."""

    def test_trains_in_any_order(self):
        line, ring, one = Line(straight("ca")), Ring(straight("bd")), Line(straight("e"))
        for parts in itertools.permutations([line, ring, one]):
            self.assertEqual(Layout.of(*parts).text(), "-a -c / (b d) / e")

    def test_of_no_train(self):
        self.assertEqual(Layout.of(), Layout([]))

    def test_thirty_wagons(self):
        self.assertEqual(len(Layout.of(Line(straight(NAMES[:30]))).wagons), 30)
        self.assertEqual(len(Layout.of(*[Ring(straight([name])) for name in NAMES[:30]])), 30)
        self.assertEqual(len(Layout.of(Ring(straight(NAMES[:14])), Line(straight(NAMES[14:30])))), 29)

    def test_no_train(self):
        line = Line(straight("a"))
        for value in ANY_VALUES + [straight("a"), Layout(["b"]), Line]:
            with self.subTest(value=value):
                self.assert_refused(InvalidLayout, {"value": value}, Layout.of, value)
                self.assert_refused(InvalidLayout, {"value": value}, Layout.of, line, value, line, None)

    def test_a_wagon_that_occurred_before(self):
        for again in (Line(straight("a")), Ring(straight("a")), Ring(straight("cab")), Line(straight("bd"))):
            self.assert_refused_train(again, [Line(straight("ab")), again, None])
        line = Line(straight("a"))
        self.assert_refused_train(line, [line, line])

    def assert_refused_train(self, value, parts):
        with self.assertRaises(InvalidLayout) as caught:
            Layout.of(*parts)
        self.assertIs(caught.exception.value, value)

    def test_too_large(self):
        many = [Line(straight([name])) for name in NAMES]
        for parts in (many[:31], many, [Line(straight(NAMES[:16])), Ring(straight(NAMES[16:31]))]):
            with self.assertRaises(TooLarge) as caught:
                Layout.of(*parts)
            self.assertEqual(vars(caught.exception), {"limit": 30})
        self.assert_refused_train(many[0], many[:31] + many[:1])
        self.assert_refused_train("a", many[:35] + ["a"])


class CommonTest(Case):
    """Promise 13."""

    def test_example(self):
        self.assertEqual(common(Layout.read("a b c"), Layout.read("a b / c")).text(), "a b / c")
        self.assertEqual(difference(Layout.read("a b c"), Layout.read("a b / c")).text(), "a / b c")
        self.assertEqual(difference(Layout.read("a b / c"), Layout.read("a b c")).text(), "a / b / c")

    def test_all_pairs(self):
        for names in ("", "a", "ab"):
            for one, other in itertools.product(all_layouts(names), repeat=2):
                both = [pair for pair in one.couplings if pair in other.couplings]
                alone = [pair for pair in one.couplings if pair not in other.couplings]
                self.assertEqual(common(one, other), Layout(list(names), both))
                self.assertEqual(difference(one=one, other=other), Layout(list(names), alone))

    def test_no_layouts(self):
        layout = Layout(["a"])
        for function in (common, difference):
            for value in ANY_VALUES + ["a", Line(straight("a")), ["a"]]:
                with self.subTest(function.__name__, value=value):
                    self.assert_refused(InvalidLayout, {"value": value}, function, value, layout)
                    self.assert_refused(InvalidLayout, {"value": value}, function, layout, value)
                    self.assert_refused(InvalidLayout, {"value": value}, function, value, 5)
                    self.assert_refused(InvalidLayout, {"value": value}, function, other=0, one=value)

    def test_other_wagons(self):
        for one, other in (("a", "b"), ("a", ""), ("a", "a / b"), ("a b", "a c")):
            for function in (common, difference):
                self.assert_refused(OtherWagons, {}, function, Layout.read(one), Layout.read(other))


class InterfaceTest(unittest.TestCase):
    """Promise 16."""

    def test_methods_stand_in_the_class_itself(self):
        for name in ("__init__", "of", "read", "wagons", "couplings", "free", "trains", "text", "__len__", "__eq__",
                     "__getitem__", "__contains__"):
            self.assertIn(name, vars(Layout))
        for thing in (Layout, common, difference):
            self.assertEqual(thing.__module__, "shuntplan.layouts")
        for name in ("wagons", "couplings", "free"):
            self.assertIsInstance(vars(Layout)[name], property)

    def test_a_layout_is_not_iterated_over(self):
        self.assertRaises(TypeError, list, Layout(["a"]))

    def test_examples(self):
        web = Layout(["b", "a"], [(B0, A1)])
        self.assertEqual(web.text(), "a b")
        self.assertEqual([web[A1], web[A0], (A1, B0) in web], [B0, None, True])

    def test_a_train_that_is_read_is_a_train(self):
        self.assertTrue(all([isinstance(train, Train) for train in Layout.read("a / (b)").trains()]))


if __name__ == "__main__":
    unittest.main()
