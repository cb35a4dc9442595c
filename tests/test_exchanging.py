"""Points [6] and [8]; promise 6 of the stage about steps: stretches of a train turned around or exchanged."""

import itertools
import unittest

from shuntplan.errors import InvalidLayout, InvalidName, NoWagon
from shuntplan.layouts import Layout
from shuntplan.steps import exchanged, reversed_stretch
from shuntplan.trains import Ring
from tests.samples import ANY_VALUES, NAMES, SMALL, Case, scattered

SAMPLES = SMALL[1] + SMALL[2] + SMALL[3] + [
    Layout.read(text)
    for text in ("a b c d e", "a -b c -d e", "(a b c d e)", "(a -b c -d)", "a -c / (b -e d)", "-a b d -c")
] + [scattered(NAMES[:count], count, free) for count in (6, 9) for free in (0, 4)]

NO_WAGONS = [value for value in ANY_VALUES if value != "a"] + ["aa", "z", ("a", 0), ["a", "b"]]


def train_rows(layout):
    """The pairs of the normal form of each train and whether it is a ring."""
    return [(train.row, isinstance(train, Ring)) for train in layout.trains()]


def links_of(row, closed):
    """The couplings of a train that is read so."""
    following = row[1:] + row[:1] if closed else row[1:]
    pairs = []
    for (name, direction), (after, turn) in zip(row, following):
        pairs.append(((name, 1 if direction == 1 else 0), (after, 0 if turn == 1 else 1)))
    return pairs


def with_train(layout, place, row):
    """The layout in which the train at this place has another row."""
    pairs = []
    for at, (old, closed) in enumerate(train_rows(layout)):
        pairs += links_of(row if at == place else old, closed)
    return Layout(layout.wagons, pairs)


def turned_by_hand(row):
    return tuple([(name, -direction) for name, direction in reversed(row)])


class ReversedStretchTest(Case):
    def assert_leads(self, before, first, last, after):
        layout = Layout.read(before)
        self.assertEqual(reversed_stretch(layout, first, last).text(), after)
        self.assertEqual(reversed_stretch(last=last, layout=layout, first=first), Layout.read(after))
        self.assertEqual(layout, Layout.read(before))

    def test_lines(self):
        self.assert_leads("a b c", "b", "b", "a -b c")
        self.assert_leads("a b c", "a", "a", "-a b c")
        self.assert_leads("a b c", "c", "c", "a b -c")
        self.assert_leads("a b c", "a", "b", "-b -a c")
        self.assert_leads("a b c", "b", "c", "a -c -b")
        self.assert_leads("a b c", "a", "c", "a b c")
        self.assert_leads("a -b c d / e", "b", "d", "a -d -c b / e")
        self.assert_leads("a b / c", "c", "c", "a b / c")
        self.assert_leads("c / b a", "b", "b", "-a b / c")

    def test_rings(self):
        self.assert_leads("(a b c)", "b", "b", "(a -b c)")
        self.assert_leads("(a b c)", "a", "a", "(a -c -b)")
        self.assert_leads("(a b c)", "b", "c", "(a -c -b)")
        self.assert_leads("(a b c)", "a", "c", "(a b c)")
        self.assert_leads("(a)", "a", "a", "(a)")
        self.assert_leads("(b c a)", "b", "c", "(a -c -b)")
        self.assert_leads("a / (b c -d)", "c", "d", "a / (b d -c)")

    def test_every_stretch(self):
        for layout in SAMPLES:
            for place, (row, _) in enumerate(train_rows(layout)):
                for start, stop in itertools.combinations(range(len(row) + 1), 2):
                    after = row[:start] + turned_by_hand(row[start:stop]) + row[stop:]
                    found = reversed_stretch(layout, row[start][0], row[stop - 1][0])
                    self.assertEqual(found, with_train(layout, place, after))
                    self.assertEqual(found.wagons, layout.wagons)

    def test_thirty_wagons(self):
        layout = Layout.read(" ".join(sorted(NAMES[:30])))
        names = sorted(NAMES[:30])
        after = [names[0]] + ["-" + name for name in names[28:0:-1]] + [names[29]]
        self.assertEqual(reversed_stretch(layout, names[1], names[28]), Layout.read(" ".join(after)))

    def test_no_layout(self):
        for value in ANY_VALUES:
            self.assert_refused(InvalidLayout, {"value": value}, reversed_stretch, value, "a", "a")
            self.assert_refused(InvalidLayout, {"value": value}, reversed_stretch, value, value, value)

    def test_first_name_that_is_not_a_wagon(self):
        layout = Layout.read("a b / c")
        for value in NO_WAGONS:
            self.assert_refused(NoWagon, {"name": value}, reversed_stretch, layout, value, "a")
            self.assert_refused(NoWagon, {"name": value}, reversed_stretch, layout, "a", value)
            self.assert_refused(NoWagon, {"name": value}, reversed_stretch, layout, value, "zz")
            self.assert_refused(NoWagon, {"name": value}, reversed_stretch, layout, "c", value)
            self.assert_refused(NoWagon, {"name": value}, reversed_stretch, Layout([]), value, "a")

    def test_names_that_do_not_stand_in_order(self):
        for text, first, last in [
            ("a b c", "b", "a"), ("a b c", "c", "a"), ("a b c", "c", "b"), ("a b / c", "a", "c"), ("a b / c", "c", "a"),
            ("(a b c)", "c", "b"), ("(a b c)", "b", "a"), ("(a) / (b)", "a", "b"), ("b a", "b", "a"),
            ("(b a)", "b", "a"),
        ]:
            self.assert_refused(InvalidName, {"value": last}, reversed_stretch, Layout.read(text), first, last)


class ExchangedTest(Case):
    def assert_leads(self, before, names, after):
        layout = Layout.read(before)
        self.assertEqual(exchanged(layout, *names).text(), after)
        first, last, third, fourth = names
        found = exchanged(fourth=fourth, third=third, last=last, first=first, layout=layout)
        self.assertEqual(found, Layout.read(after))
        self.assertEqual(layout, Layout.read(before))

    def test_lines(self):
        self.assert_leads("a b c d", "aacd", "-a -b -d -c")
        self.assert_leads("a b c d", "abcd", "-b -a -d -c")
        self.assert_leads("a b c d", "aabb", "b a c d")
        self.assert_leads("a b c d", "bbcc", "a c b d")
        self.assert_leads("a b c d", "aadd", "-a -c -b -d")
        self.assert_leads("a -b c d e", "bbcd", "a c d -b e")
        self.assert_leads("a -b c d e", "bbee", "a e c d -b")
        self.assert_leads("a b / c d", "ccdd", "a b / -c -d")

    def test_rings(self):
        self.assert_leads("(a b)", "aabb", "(a b)")
        self.assert_leads("(a b c)", "aabb", "(a c b)")
        self.assert_leads("(a b c d e)", "bbde", "(a d e c b)")
        self.assert_leads("(a b c d e)", "abde", "(a b d e c)")
        self.assert_leads("c / (a -b d)", "bbdd", "(a d -b) / c")

    def test_every_pair_of_stretches(self):
        for layout in SAMPLES:
            for place, (row, _) in enumerate(train_rows(layout)):
                marks = itertools.combinations_with_replacement(range(len(row) + 1), 4)
                for i, j, k, l in [four for four in marks if four[0] < four[1] <= four[2] < four[3]]:
                    after = row[:i] + row[k:l] + row[j:k] + row[i:j] + row[l:]
                    found = exchanged(layout, row[i][0], row[j - 1][0], row[k][0], row[l - 1][0])
                    self.assertEqual(found, with_train(layout, place, after))
                    self.assertEqual(found.wagons, layout.wagons)

    def test_no_layout(self):
        for value in ANY_VALUES:
            self.assert_refused(InvalidLayout, {"value": value}, exchanged, value, "a", "a", "b", "b")
            self.assert_refused(InvalidLayout, {"value": value}, exchanged, value, 1, value, value, value)

    def test_first_name_that_is_not_a_wagon(self):
        layout = Layout.read("a b / c")
        for value in NO_WAGONS:
            for names in [(value, "z", 1, 2), ("b", value, "z", 1), ("c", "a", value, "z"), ("c", "a", "b", value)]:
                self.assert_refused(NoWagon, {"name": value}, exchanged, layout, *names)

    def test_errors_in_their_order(self):
        for text, names, wrong in [
            ("a b c d", "baba", 1), ("a b c d", "baab", 1), ("a b c d", "badc", 1), ("a b / c d", "accd", 1),
            ("a b / c d", "acdc", 1), ("(a b c d)", "daab", 1), ("d c b a", "dcba", 1),
            ("a b c d", "abdc", 3), ("a b c d", "cdba", 3), ("a b / c d", "abca", 3), ("a b / c d", "cdbc", 3),
            ("(a b c d)", "abdc", 3), ("a b c d", "abba", 3),
            ("a b c d", "abbc", 2), ("a b c d", "aaaa", 2), ("a b c d", "bcad", 2), ("a b c d", "cdab", 2),
            ("a b c d", "bbad", 2), ("a b c d", "bbab", 2), ("a b c d", "acbd", 2), ("a b c d", "ddaa", 2),
            ("a b / c d", "abcd", 2), ("a b / c d", "cdab", 2), ("(a b c d)", "ddaa", 2), ("(a b) / (c d)", "aacc", 2),
        ]:
            arguments = [name for name in names]
            field = {"value": arguments[wrong]}
            self.assert_refused(InvalidName, field, exchanged, Layout.read(text), *arguments)


if __name__ == "__main__":
    unittest.main()
