"""Points [8], [10], [12] and [16] over a journal; promise 19 of the stage about orders."""

import itertools
import unittest

from shuntplan.compare import distance, is_plan, plan
from shuntplan.counts import layout_at, number_of, packed, unpacked
from shuntplan.errors import AlreadyCoupled, NotCoupled
from shuntplan.family import change
from shuntplan.journal import Journal
from shuntplan.layouts import Layout
from shuntplan.steps import are_neighbours
from tests.samples import NAMES, SMALL, Dice, ends_of, scattered

STARTS = [scattered(NAMES[:count], seed, free) for count in (1, 2, 3, 5, 12, 30) for seed, free in ((1, 0), (2, 2))]


def with_steps(layout, seed, count):
    """A journal in which so many steps have been done, some of them undone and redone again."""
    journal, dice, ends = Journal(layout), Dice(seed), ends_of(layout.wagons)
    while journal.moment < count:
        one, other = dice.one_of(ends), dice.one_of(ends)
        try:
            journal.do(("cut", one) if one == other or dice.below(3) == 0 else ("couple", one, other))
        except (AlreadyCoupled, NotCoupled):
            continue
        if dice.below(4) == 0:
            journal.undo()
            if dice.below(2) == 0:
                journal.redo()
    return journal


def layouts_of(journal):
    return [journal.layout_after(moment) for moment in range(journal.moment + 1)]


def deed_between(one, other):
    """The deed that leads from a layout to a neighbour."""
    made = [pair for pair in other.couplings if pair not in one.couplings]
    if made:
        return ("couple", *made[0])
    return ("cut", [pair for pair in one.couplings if pair not in other.couplings][0][0])


JOURNALS = [with_steps(layout, seed, 14) for seed, layout in enumerate(STARTS)]


class OverAJournalTest(unittest.TestCase):
    def test_no_farther_than_deeds_lie_between(self):
        for journal in JOURNALS:
            layouts = layouts_of(journal)
            self.assertEqual(len(layouts), 15)
            for (at, one), (place, other) in itertools.combinations(enumerate(layouts), 2):
                self.assertLessEqual(distance(one, other), place - at)
                self.assertEqual(distance(one, other) == 0, one == other)

    def test_neighbours(self):
        for journal in JOURNALS:
            layouts = layouts_of(journal)
            self.assertTrue(is_plan(layouts))
            for one, other in zip(layouts, layouts[1:]):
                self.assertTrue(are_neighbours(one, other) and are_neighbours(other, one))
                self.assertIn(change(one, other), (1, 2, 4))

    def test_any_number_of_changes_occurs(self):
        found = [layouts_of(journal) for journal in JOURNALS]
        changes = {change(one, other) for layouts in found for one, other in zip(layouts, layouts[1:])}
        self.assertEqual(changes, {1, 2, 4})

    def test_plans_as_deeds(self):
        for journal in JOURNALS:
            layouts = layouts_of(journal)
            for one, other in [(layouts[0], layouts[-1]), (layouts[5], layouts[2]), (layouts[3], layouts[3])]:
                self.check_plan(one, other)
        for one, other in itertools.product(SMALL[3][::9], SMALL[3][::5]):
            self.check_plan(one, other)

    def check_plan(self, one, other):
        trail = plan(one, other)
        deeds = [deed_between(near, after) for near, after in zip(trail, trail[1:])]
        single, batch = Journal(one), Journal(one)
        for deed in deeds:
            single.do(deed)
        batch.batch(*deeds)
        self.assertEqual((single.layout, batch.layout), (other, other))
        self.assertEqual((single.moment, layouts_of(single)), (distance(one, other), trail))

    def test_the_distance_changes_by_at_most_one(self):
        for journal in JOURNALS:
            layouts = layouts_of(journal)
            names = NAMES[:len(layouts[0].wagons)]
            for goal in [Layout(names), layouts[-1], scattered(names, 77, 0), scattered(names, 78, 2)]:
                distances = [distance(layout, goal) for layout in layouts]
                for one, other in zip(distances, distances[1:]):
                    self.assertIn(one - other, (-1, 0, 1))

    def test_numbers_bytes_and_texts_lead_back(self):
        for journal in JOURNALS:
            for layout in layouts_of(journal):
                self.assertEqual(layout_at(list(layout.wagons), number_of(layout)), layout)
                self.assertEqual(unpacked(list(layout.wagons), packed(layout)), layout)
                again = Journal()
                again.do(("set", layout.text()))
                self.assertEqual((again.layout, Layout.read(layout.text())), (layout, layout))


if __name__ == "__main__":
    unittest.main()
