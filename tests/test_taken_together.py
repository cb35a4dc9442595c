"""Points [8] to [12]; promise 16 of the stage about steps: what holds between its functions."""

import unittest

from shuntplan.compare import best_next, comparison, distance, is_plan, plan
from shuntplan.counts import number_of, plan_count
from shuntplan.errors import MixedPaths
from shuntplan.layouts import Layout
from shuntplan.steps import are_neighbours, neighbours
from tests.samples import NAMES, SMALL, scattered

LARGER = [scattered(NAMES[:count], count, free) for count in (4, 5, 8) for free in (0, 2, 4)]
PAIRS = [(one, other) for layouts in SMALL for one in layouts for other in layouts[::3]]
LARGER_PAIRS = [(one, other) for one in LARGER for other in LARGER if one.wagons == other.wagons]


def count_or_none(one, other):
    try:
        return plan_count(one, other)
    except MixedPaths:
        return None


class TogetherTest(unittest.TestCase):
    def test_neighbours_are_mutual(self):
        for layout in [layout for layouts in SMALL for layout in layouts] + LARGER[:4]:
            for near in neighbours(layout):
                self.assertIn(layout, neighbours(near))
                self.assertTrue(are_neighbours(layout, near) and are_neighbours(near, layout))
                self.assertEqual((distance(layout, near), distance(near, layout)), (1, 1))

    def test_numbers_rise(self):
        for layout in SMALL[3] + LARGER:
            numbers = [number_of(near) for near in neighbours(layout)]
            self.assertTrue(all([one < other for one, other in zip(numbers, numbers[1:])]))

    def test_a_neighbour_is_nearer_or_farther_by_one_or_as_far(self):
        for one, other in PAIRS[::7] + LARGER_PAIRS:
            before = distance(one, other)
            nearer = []
            for near in neighbours(one):
                self.assertIn(distance(near, other) - before, (-1, 0, 1))
                if distance(near, other) == before - 1:
                    nearer.append(near)
            self.assertEqual(best_next(one, other), nearer)

    def test_needs_and_odd_paths(self):
        for one, other in PAIRS + LARGER_PAIRS:
            parts = comparison(one, other)
            self.assertEqual(sum([part.need for part in parts]), distance(one, other))
            self.assertEqual(sum([len(part) for part in parts]), 2 * len(one.wagons))
            odd = [part for part in parts if part.kind == "odd"]
            cycles = [part for part in parts if part.kind == "cycle"]
            self.assertEqual(len(odd) & 1, 0)
            self.assertEqual(len(one.wagons) - len(cycles) - len(odd) // 2, distance(one, other))

    def test_the_number_of_plans_is_the_sum_over_the_nearer_neighbours(self):
        for one, other in PAIRS[::3] + LARGER_PAIRS[:10]:
            count = count_or_none(one, other)
            nearer = [count_or_none(near, other) for near in best_next(one, other)]
            if count is not None and one != other:
                self.assertNotIn(None, nearer)
                self.assertEqual(sum(nearer), count)

    def test_plans_are_plans(self):
        for one, other in PAIRS[::5] + LARGER_PAIRS:
            layouts = plan(one, other)
            self.assertTrue(is_plan(layouts) and is_plan(layouts[::-1]))
            self.assertEqual([distance(layout, other) for layout in layouts], list(range(len(layouts)))[::-1])
            if len(layouts) > 1:
                self.assertIn(layouts[1], best_next(one, other))

    def test_nothing_of_this_changes_a_layout(self):
        one, other = scattered(NAMES[:8], 1, 2), scattered(NAMES[:8], 2, 4)
        before = [(layout.wagons, layout.couplings, layout.free, layout.text()) for layout in (one, other)]
        for _ in range(2):
            comparison(one, other), plan(one, other), best_next(one, other), count_or_none(one, other)
            after = [(layout.wagons, layout.couplings, layout.free, layout.text()) for layout in (one, other)]
            self.assertEqual(after, before)
        self.assertEqual(one, Layout(one.wagons, one.couplings))


if __name__ == "__main__":
    unittest.main()
