"""Point [8]; promises 1 to 5 of the stage about steps, and the examples of the steps' section."""

import unittest

from shuntplan.counts import number_of
from shuntplan.errors import AlreadyCoupled, InvalidEnd, InvalidLayout, NotCoupled, NoWagon, OtherWagons, TooLarge
from shuntplan.layouts import Layout
from shuntplan.steps import Couple, Cut, Step, are_neighbours, exchanged, neighbours, reversed_stretch
from tests.samples import ANY_VALUES, NAMES, SMALL, Case, around, coupled_by_hand, cut_by_hand, ends_of, scattered

A0, A1, B0, B1, C0, C1, D0, D1 = ends_of("abcd")

# Values that are no ends, other than those among ANY_VALUES.
NO_ENDS = [("a",), ("a", 0, 1), ["a", 0], ("a", True), ("a", False), ("a", -1), ("A", 0), ("", 0), (0, "a"), "a0"]
NO_LAYOUTS = ANY_VALUES + [Couple(A0, A1), Cut(A0), [Layout(["a"])]]


class ExampleTest(unittest.TestCase):
    def test_examples(self):
        self.assertEqual(Couple(("a", 0), ("b", 1))(Layout.read("a b")).text(), "(a b)")
        self.assertEqual(Couple(("b", 1), ("c", 1))(Layout.read("a b / c")).text(), "a b -c")
        self.assertEqual([layout.text() for layout in neighbours(Layout.read("a"))], ["(a)"])
        self.assertEqual(reversed_stretch(Layout.read("a b c"), "b", "b").text(), "a -b c")
        self.assertEqual(exchanged(Layout.read("a b c d"), "a", "a", "c", "d").text(), "-a -b -d -c")


class MadeTest(Case):
    """Promise 1."""

    def test_ends_ascend(self):
        for one in ends_of("ab"):
            self.assertEqual(Cut(one).ends, (one,))
            self.assertIs(Cut(one).ends.__class__, tuple)
            for other in ends_of("ab"):
                if one < other:
                    self.assertEqual(Couple(one, other).ends, (one, other))
                    self.assertEqual(Couple(other, one).ends, (one, other))
                    self.assertIs(Couple(other, one).ends.__class__, tuple)

    def test_names_compare_as_python_compares_them(self):
        self.assertEqual(Couple(("b", 0), ("aa", 1)).ends, (("aa", 1), ("b", 0)))
        self.assertEqual(Couple(("ab", 0), ("a", 1)).ends, (("a", 1), ("ab", 0)))

    def test_by_name(self):
        self.assertEqual(Couple(other=B0, one=C1).ends, (B0, C1))
        self.assertEqual(Cut(end=C1).ends, (C1,))

    def test_classes(self):
        for step in (Couple(A0, A1), Cut(A0)):
            self.assertIsInstance(step, Step)
        self.assertNotIsInstance(Couple(A0, A1), Cut)
        self.assertNotIsInstance(Cut(A0), Couple)
        for kind in (Step, Couple, Cut):
            for name in ("ends", "__call__", "__eq__"):
                self.assertIn(name, vars(kind))

    def test_equal_only_by_class_and_ends(self):
        def made():
            pairs = [(one, other) for one in ends_of("ab") for other in ends_of("ab") if one < other]
            return [Couple(one, other) for one, other in pairs] + [Cut(end) for end in ends_of("ab")]

        for place, step in enumerate(made()):
            for other_place, other in enumerate(made()):
                self.assertIs(step == other, place == other_place)
                self.assertIs(step != other, place != other_place)
        self.assertEqual(Couple(B1, A0), Couple(A0, B1))

    def test_equal_to_no_other_value(self):
        others = ANY_VALUES + [A0, (A0,), (A0, B1), [A0, B1], "Cut", Layout(["a"]), Layout.read("(a)")]
        for step in (Couple(A0, B1), Cut(A0), Couple(A0, A1)):
            for value in others + [step.ends, list(step.ends)]:
                self.assertIs(step == value, False)
                self.assertIs(value == step, False)
                self.assertIs(step != value, True)
                self.assertIs(value != step, True)

    def test_first_value_that_is_no_end(self):
        for value in ANY_VALUES + NO_ENDS:
            self.assert_refused(InvalidEnd, {"value": value}, Cut, value)
            self.assert_refused(InvalidEnd, {"value": value}, Couple, value, A0)
            self.assert_refused(InvalidEnd, {"value": value}, Couple, A0, value)
            self.assert_refused(InvalidEnd, {"value": value}, Couple, value, value)
            self.assert_refused(InvalidEnd, {"value": value}, Couple, one=value, other=[A0])
            self.assert_refused(InvalidEnd, {"value": value}, Cut, end=value)

    def test_the_same_end_twice(self):
        for end in ends_of("ab"):
            other = tuple(list(end))
            self.assertIsNot(end, other)
            self.assert_refused(InvalidEnd, {"value": other}, Couple, end, other)
            self.assert_refused(InvalidEnd, {"value": end}, Couple, other=end, one=other)


class DoneTest(Case):
    """Promise 2."""

    def assert_leads(self, step, before, after):
        layout = Layout.read(before)
        for _ in range(2):
            self.assertEqual(step(layout).text(), after)
            self.assertEqual(step(layout=layout), Layout.read(after))
            self.assertIs(step(layout).__class__, Layout)
        self.assertEqual(layout, Layout.read(before))

    def test_both_ends_free(self):
        self.assert_leads(Couple(A1, B0), "a / b", "a b")
        self.assert_leads(Couple(B1, A1), "a / b", "a -b")
        self.assert_leads(Couple(A0, B1), "a b", "(a b)")
        self.assert_leads(Couple(A1, A0), "a / b", "(a) / b")
        self.assert_leads(Couple(A0, A1), "a", "(a)")

    def test_one_end_with_a_partner(self):
        self.assert_leads(Couple(A1, C0), "a b / c", "a c / b")
        self.assert_leads(Couple(C0, A1), "a b / c", "a c / b")
        self.assert_leads(Couple(A0, B1), "a b c", "(a b) / c")
        self.assert_leads(Couple(A1, A0), "a b", "(a) / b")
        self.assert_leads(Couple(B0, A1), "(a) / b", "a b")
        self.assert_leads(Couple(C1, A1), "(a b) / c", "b a -c")

    def test_both_with_partners_in_one_train(self):
        self.assert_leads(Couple(A1, C0), "a b c", "a c / (b)")
        self.assert_leads(Couple(A1, B1), "a b c", "a -b c")
        self.assert_leads(Couple(A1, B1), "(a b)", "(a -b)")
        self.assert_leads(Couple(A1, A0), "(a b)", "(a) / (b)")
        self.assert_leads(Couple(A1, D0), "(a b c d)", "(a d) / (b c)")

    def test_both_with_partners_in_two_trains(self):
        self.assert_leads(Couple(A1, D0), "a b / c d", "a d / -b -c")
        self.assert_leads(Couple(A1, C1), "a b / c d", "a -c / -b d")
        self.assert_leads(Couple(A0, B1), "(a) / (b)", "(a b)")
        self.assert_leads(Couple(A1, B1), "(a) / (b)", "(a -b)")
        self.assert_leads(Couple(C1, A1), "a b / (c)", "a -c b")

    def test_cutting(self):
        self.assert_leads(Cut(A1), "a b", "a / b")
        self.assert_leads(Cut(B0), "a b", "a / b")
        self.assert_leads(Cut(A1), "(a)", "a")
        self.assert_leads(Cut(A0), "(a)", "a")
        self.assert_leads(Cut(B1), "(a b c)", "-b -a -c")
        self.assert_leads(Cut(B1), "a b c / (d)", "a b / c / (d)")

    def test_all_steps_of_small_layouts_by_the_words_of_the_document(self):
        for layouts in SMALL:
            for layout in layouts:
                for one in ends_of(layout.wagons):
                    if layout[one] is not None:
                        self.assert_made(layout, Cut(one), cut_by_hand(layout, one))
                    for other in ends_of(layout.wagons):
                        if other not in (one, layout[one]):
                            self.assert_made(layout, Couple(one, other), coupled_by_hand(layout, one, other))

    def assert_made(self, layout, step, couplings):
        after = step(layout)
        self.assertEqual((after.wagons, after.couplings), (layout.wagons, couplings))

    def test_thirty_wagons(self):
        layout = scattered(NAMES[:30], 5, 4)
        for one, other in zip(ends_of(NAMES[:30]), ends_of(NAMES[:30])[7:]):
            if layout[one] != other:
                self.assert_made(layout, Couple(one, other), coupled_by_hand(layout, one, other))


class RefusedTest(Case):
    """Promise 3."""

    def test_no_layout(self):
        for value in NO_LAYOUTS:
            self.assert_refused(InvalidLayout, {"value": value}, Couple(A0, A1), value)
            self.assert_refused(InvalidLayout, {"value": value}, Cut(A0), value)
            self.assert_refused(InvalidLayout, {"value": value}, Cut(A0), layout=value)

    def test_no_wagon(self):
        for steps, layout, name in [
            ((Couple(A0, B0), Couple(B0, A0), Couple(C0, A0)), Layout(["c"]), "a"),
            ((Couple(B0, C1), Couple(C1, B0)), Layout(["c", "a"]), "b"),
            ((Couple(B0, C1), Couple(C1, B0), Couple(C0, C1)), Layout.read("(a b)"), "c"),
            ((Couple(A0, A1), Cut(A0), Cut(A1), Couple(B0, A0)), Layout([]), "a"),
            ((Cut(B0), Cut(B1)), Layout(["a", "bb"]), "b"),
        ]:
            for step in steps:
                with self.assertRaises(NoWagon) as caught:
                    step(layout)
                self.assertEqual(vars(caught.exception), {"name": name})

    def test_the_name_of_the_first_end(self):
        name = "".join(["wag", "on"])
        self.assert_refused(NoWagon, {"name": name}, Couple(("z", 0), (name, 1)), Layout(["a"]))
        self.assert_refused(NoWagon, {"name": name}, Couple(A1, (name, 1)), Layout(["a"]))
        self.assert_refused(NoWagon, {"name": name}, Couple(A1, (name, 1)), Layout.read("(a)"))
        self.assert_refused(NoWagon, {"name": name}, Cut((name, 0)), Layout([]))

    def test_partners_are_not_coupled_again(self):
        for layout in SMALL[2] + [scattered(NAMES[:30], 3, 2)]:
            for one, other in layout.couplings:
                self.assert_refused(AlreadyCoupled, {"end": one}, Couple(one, other), layout)
                self.assert_refused(AlreadyCoupled, {"end": one}, Couple(other, one), layout)

    def test_a_free_end_is_not_cut(self):
        for layout in SMALL[2] + [scattered(NAMES[:30], 3, 6)]:
            for end in layout.free:
                self.assert_refused(NotCoupled, {"end": end}, Cut(end), layout)


class NeighboursTest(Case):
    """Promise 4."""

    def test_small_layouts(self):
        for layouts in SMALL:
            for layout in layouts:
                expected = [other for other in layouts if other.couplings in around(layout)]
                self.assertEqual(neighbours(layout), expected)

    def test_layouts_of_up_to_eight_wagons(self):
        for count in (4, 5, 7, 8):
            for free in (0, 2, 6):
                layout = scattered(NAMES[:count], count, free)
                found = neighbours(layout=layout)
                numbers = [number_of(other) for other in found]
                self.assertEqual(numbers, sorted(set(numbers)))
                self.assertEqual({other.couplings for other in found}, around(layout))
                self.assertEqual({other.wagons for other in found}, {layout.wagons})
                self.assertNotIn(layout, found)

    def test_long_names_and_no_wagons(self):
        texts = [layout.text() for layout in neighbours(Layout.read("b / ab"))]
        self.assertEqual(texts, ["ab / (b)", "ab b", "ab -b", "(ab) / b", "-ab b", "-ab -b"])
        self.assertEqual(neighbours(Layout([])), [])

    def test_a_new_list_each_time(self):
        layout = Layout.read("a b")
        found = neighbours(layout)
        self.assertIs(found.__class__, list)
        found.clear()
        self.assertEqual(len(neighbours(layout)), len(around(layout)))

    def test_wrong_values(self):
        for value in NO_LAYOUTS:
            self.assert_refused(InvalidLayout, {"value": value}, neighbours, value)
        for count in (9, 10, 30):
            for free in (0, 2 * count):
                self.assert_refused(TooLarge, {"limit": 8}, neighbours, scattered(NAMES[:count], 1, free))
        self.assertEqual(len(neighbours(Layout(NAMES[:8]))), 120)


class AreNeighboursTest(Case):
    """Promise 5."""

    def test_small_layouts(self):
        for layouts in SMALL:
            for one in layouts:
                near = around(one)
                for other in layouts:
                    self.assertIs(are_neighbours(one, other), other.couplings in near)

    def test_a_layout_is_not_its_own_neighbour(self):
        for layout in SMALL[3] + [Layout([]), scattered(NAMES[:30], 2, 4)]:
            self.assertIs(are_neighbours(layout, layout), False)
            self.assertIs(are_neighbours(layout, Layout(layout.wagons, layout.couplings)), False)

    def test_thirty_wagons(self):
        layout = scattered(NAMES[:30], 7, 4)
        for one, other in [(end, after) for end in ends_of("ab") for after in ends_of(NAMES[2:30])]:
            if layout[one] != other:
                near = Layout(layout.wagons, coupled_by_hand(layout, one, other))
                self.assertIs(are_neighbours(layout, near), True)
                self.assertIs(are_neighbours(one=near, other=layout), True)
                far = Layout(layout.wagons, cut_by_hand(near, near.couplings[12][0]))
                expected = layout.couplings in around_towards(far, layout)
                self.assertIs(are_neighbours(layout, far), expected)
                self.assertIs(are_neighbours(far, layout), expected)

    def test_wrong_values(self):
        layout, small = Layout.read("a b"), Layout.read("a")
        for value in NO_LAYOUTS:
            self.assert_refused(InvalidLayout, {"value": value}, are_neighbours, value, layout)
            self.assert_refused(InvalidLayout, {"value": value}, are_neighbours, layout, value)
            self.assert_refused(InvalidLayout, {"value": value}, are_neighbours, value, 0)
            self.assert_refused(InvalidLayout, {"value": value}, are_neighbours, other=small, one=value)
        for one, other in [(layout, small), (small, layout), (small, Layout([])), (small, Layout(["b"]))]:
            self.assert_refused(OtherWagons, {}, are_neighbours, one, other)


def around_towards(layout, goal):
    """The couplings of the layouts one step away that make a coupling of the goal or cut one that it has not."""
    found = [coupled_by_hand(layout, one, other) for one, other in goal.couplings if layout[one] != other]
    return found + [cut_by_hand(layout, one) for one, other in layout.couplings if goal[one] != other]


if __name__ == "__main__":
    unittest.main()
