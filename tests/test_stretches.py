"""Points [14] and [15]; promises 4 to 8 of the stage about orders, and the examples of the stretches' section."""

import itertools
import unittest

from shuntplan.errors import InvalidNumber, InvalidRow, OtherWagons, PrimeStretch
from shuntplan.stretches import Node, is_stretch, kept_distance, kept_plan, reversed_row, stretch_tree
from tests.samples import ANY_VALUES, NAMES, Case, Dice, shuffled, straight

# Values that are no rows of 1 to 30 wagons, other than those among ANY_VALUES.
NO_ROWS = ANY_VALUES + [
    [("a", 1)], (["a", 1],), (("a", 1), ("a", 1)), (("a", 1), ("b", 1), ("a", -1)), (("a", 0),), (("a", 2),),
    (("a", True),), (("a",),), (("a", 1, 1),), (("A", 1),), (("", 1),), (("abcdefghi", 1),), (("a", 1), None),
    (("a", 1), ("b", "1")), (("a", 1), ([], 1)), straight(NAMES[:31]), straight(NAMES), ("a", 1), "a", "a b",
    {("a", 1): 1}, (("a", -2),), (("a b", 1),),
]

# Orders of so many parts in which no window of some, but neither one nor all of them, is one of 0, 1, 2 and so on.
PRIMES = {4: (1, 3, 0, 2), 5: (1, 3, 0, 4, 2), 6: (3, 0, 4, 1, 5, 2)}


def turned_by_hand(row):
    return tuple([(name, -direction) for name, direction in reversed(row)])


def reversed_by_hand(row, start, stop):
    """The row in which the wagons at these indexes, the last one left out, are turned around."""
    return row[:start] + turned_by_hand(row[start:stop]) + row[stop:]


def scattered_row(count, seed):
    dice = Dice(seed)
    return tuple([(name, dice.one_of((1, -1))) for name in shuffled(NAMES[:count], seed)])


def knotted(names, dice, primes):
    """A row of these names in which stretches lie within stretches; prime ones only if that is wanted."""
    if len(names) == 1:
        return ((names[0], dice.one_of((1, -1))),)
    count = min(len(names), 2 + dice.below(5))
    marks = [0] + sorted(shuffled(range(1, len(names)), dice.below(1000))[:count - 1]) + [len(names)]
    parts = [knotted(names[start:stop], dice, primes) for start, stop in zip(marks, marks[1:])]
    orders = [range(count), range(count)[::-1]]
    if primes and count in PRIMES:
        orders.append(PRIMES[count])
    return tuple([wagon for place in dice.one_of(orders) for wagon in parts[place]])


def windows(row):
    """The set of the sets of names that stand next to each other in a row."""
    names = [name for name, _ in row]
    ends = range(len(names) + 1)
    return {frozenset(names[start:stop]) for start in ends for stop in ends if start < stop}


def strong_by_hand(one, other):
    """The list of the strong stretches by the words of the document."""
    found = windows(one) & windows(other)
    return [part for part in found if all([part <= rival or rival <= part or not part & rival for rival in found])]


def place_in(row, names):
    return min([at for at, (name, _) in enumerate(row) if name in names])


def tree_by_hand(one, other):
    """The tree in a form of its own: triples of names, kind and children."""
    strong = strong_by_hand(one, other)
    parents = {part: min([rival for rival in strong if part < rival], key=len, default=None) for part in strong}

    def triple(part):
        children = sorted([child for child in strong if parents[child] == part], key=lambda child: place_in(one, child))
        places = [place_in(other, child) for child in children]
        if len(part) == 1:
            kind = "straight" if dict(one)[min(part)] == dict(other)[min(part)] else "reversed"
        elif places == sorted(places):
            kind = "straight"
        else:
            kind = "reversed" if places[::-1] == sorted(places) else "prime"
        names = tuple([name for name, _ in one if name in part])
        return (names, kind, tuple([triple(child) for child in children]))

    return triple(frozenset([name for name, _ in one]))


def triple_of(node):
    return (node.names, node.kind, tuple([triple_of(child) for child in node.children]))


def triples_in(triple):
    """The list of a triple and all within it, in the order of walk."""
    return [triple] + [inner for child in triple[2] for inner in triples_in(child)]


def rows_of(count):
    """All rows of so many wagons."""
    turns = list(itertools.product((1, -1), repeat=count))
    return [tuple(zip(names, turn)) for names in itertools.permutations(NAMES[:count]) for turn in turns]


SMALL_PAIRS = [(straight(NAMES[:count]), row) for count in (1, 2, 3, 4) for row in rows_of(count)]
SMALL_PAIRS += [(one, other) for one in rows_of(3)[::7] for other in rows_of(3)[::5]]
SMALL_PAIRS += [(row, straight(NAMES[:5])) for row in rows_of(5)[::11]]
LARGE_PAIRS = [
    (scattered_row(count, seed), scattered_row(count, seed + 90)) for count in (6, 7, 11, 19, 30) for seed in (1, 2)
] + [
    tuple([knotted(shuffled(NAMES[:count], seed), Dice(dice), primes) for dice in (seed, 9)])
    for count in (6, 8, 10, 13, 18, 24, 30) for seed in range(4) for primes in (True, False)
]
KNOTTED = [
    (straight(NAMES[:count]), knotted(NAMES[:count], Dice(seed), primes))
    for count in (5, 7, 9, 12, 15, 20, 25, 30) for seed in range(6) for primes in (True, False)
]
PAIRS = SMALL_PAIRS + LARGE_PAIRS + KNOTTED


class ExampleTest(unittest.TestCase):
    def test_examples(self):
        one, other = (("a", 1), ("b", 1), ("c", 1)), (("a", 1), ("c", -1), ("b", -1))
        tree = stretch_tree(one, other)
        self.assertEqual([node.names for node in tree.walk()], [("a", "b", "c"), ("a",), ("b", "c"), ("b",), ("c",)])
        kinds = [node.kind for node in tree.walk()]
        self.assertEqual(kinds, ["straight", "straight", "reversed", "reversed", "reversed"])
        self.assertEqual(kept_plan(one, other), [("b", "c")])
        self.assertEqual(reversed_row(one, 1, 2), (("a", 1), ("c", -1), ("b", -1)))


class IsStretchTest(Case):
    """Promise 4."""

    def assert_answer(self, one, other, names, expected):
        self.assertIs(is_stretch(one, other, names), expected, (one, other, names))
        self.assertIs(is_stretch(names=names, other=other, one=one), expected)

    def test_all_tuples_of_names(self):
        for count in (1, 2, 3, 4):
            for one, other in [(straight(NAMES[:count]), row) for row in rows_of(count)[::3]]:
                found = windows(one) & windows(other)
                for many in range(count + 2):
                    for names in itertools.product(NAMES[:count], repeat=many):
                        places = [NAMES.index(name) for name in names]
                        in_order = all([place < after for place, after in zip(places, places[1:])])
                        self.assert_answer(one, other, names, in_order and frozenset(names) in found)

    def test_the_order_is_that_of_the_first_row(self):
        one, other = (("c", 1), ("a", -1), ("b", 1)), (("b", -1), ("c", 1), ("a", 1))
        for names, expected in [
            (("c", "a"), True), (("a", "c"), False), (("c", "a", "b"), True), (("b", "c", "a"), False),
            (("a", "b"), False), (("b",), True), (("c", "b"), False), (("c", "c"), False),
            (("c", "a", "b", "c"), False),
        ]:
            self.assert_answer(one, other, names, expected)

    def test_larger_rows(self):
        for one, other in LARGE_PAIRS[::4] + KNOTTED[::7]:
            found = windows(one) & windows(other)
            names = tuple([name for name, _ in one])
            for start, stop in itertools.combinations(range(len(names) + 1), 2):
                self.assert_answer(one, other, names[start:stop], frozenset(names[start:stop]) in found)

    def test_any_value(self):
        row = straight("ab")
        others = ANY_VALUES + [
            ["a", "b"], ("a", ["b"]), (["a"],), ("a", "z"), ("z", "a"), ("z",), (("a", 1), ("b", 1)), row,
            ("a", "b", "a"), "ab", ("a", None), ({},), {"a": "b"}, ("a", "a"), ("b", "a"), ("a", True),
            (("a",), ("b",)),
        ]
        for value in others:
            with self.subTest(value=value):
                self.assert_answer(row, row, value, value in (("a",), ("a", "b")))
        self.assert_answer(straight("c"), straight("c"), (), False)
        self.assert_answer(straight("c"), straight("c"), ("c",), True)


class TreeTest(Case):
    """Promise 5."""

    def assert_tree(self, one, other):
        tree = stretch_tree(one, other)
        expected = tree_by_hand(one, other)
        self.assertEqual(triple_of(tree), expected)
        walk = list(tree.walk())
        self.assertEqual([triple_of(node) for node in walk], triples_in(expected))
        for node in walk:
            self.assertIs(node.__class__, Node)
            self.assertEqual(len(node), len(node.names))
            self.assertEqual((node.names.__class__, node.children.__class__), (tuple, tuple))
            self.assertIs(is_stretch(one, other, node.names), True)

    def test_by_the_definitions(self):
        for one, other in SMALL_PAIRS + LARGE_PAIRS + KNOTTED:
            self.assert_tree(one, other)

    def test_all_kinds_occur(self):
        kinds = {(node.kind, len(node) > 1) for one, other in PAIRS for node in stretch_tree(one, other).walk()}
        self.assertEqual(kinds, {
            ("straight", True), ("reversed", True), ("prime", True), ("straight", False), ("reversed", False),
        })

    def test_known_trees(self):
        def kinds(one, other):
            return [("".join(node.names), node.kind) for node in stretch_tree(one, other).walk()]

        row = straight("abcd")
        self.assertEqual(kinds(straight("a"), (("a", -1),)), [("a", "reversed")])
        self.assertEqual(kinds(row[:2], straight("ba")), [("ab", "reversed"), ("a", "straight"), ("b", "straight")])
        singles = [(name, "straight") for name in "abcd"]
        self.assertEqual(kinds(row, straight("bdac")), [("abcd", "prime")] + singles)
        self.assertEqual(kinds(row, straight("abdc")), [("abcd", "straight")] + singles[:2] + [("cd", "reversed")]
                         + singles[2:])
        self.assertEqual(kinds(row, row), [("abcd", "straight")] + singles)
        self.assertEqual(kinds(row, turned_by_hand(row)), [(name, "reversed") for name in ["abcd"] + list("abcd")])

    def test_thirty_wagons(self):
        row = straight(NAMES[:30])
        for other, kind in [(row, "straight"), (turned_by_hand(row), "reversed")]:
            tree = stretch_tree(one=row, other=other)
            self.assertEqual((tree.kind, len(tree), len(tree.children)), (kind, 30, 30))
            self.assertEqual({child.kind for child in tree.children}, {kind})
        deep = row[:1]
        for place in range(1, 30):
            deep = deep + row[place:place + 1] if place % 2 else row[place:place + 1] + deep
        self.assertEqual(len(list(stretch_tree(row, deep).walk())), 59)

    def test_the_rows_the_other_way_round(self):
        for one, other in PAIRS:
            found = {(frozenset(node.names), node.kind) for node in stretch_tree(one, other).walk()}
            back = {(frozenset(node.names), node.kind) for node in stretch_tree(other, one).walk()}
            self.assertEqual(back, found)

    def test_the_second_row_from_the_other_side(self):
        swapped = {"straight": "reversed", "reversed": "straight", "prime": "prime"}
        for one, other in PAIRS:
            found = [(node.names, swapped[node.kind]) for node in stretch_tree(one, other).walk()]
            turned = [(node.names, node.kind) for node in stretch_tree(one, turned_by_hand(other)).walk()]
            self.assertEqual(turned, found)

    def test_equal_exactly_with_names_kinds_and_children(self):
        nodes = [node for one, other in SMALL_PAIRS[:500:9] for node in stretch_tree(one, other).walk()]
        triples = [triple_of(node) for node in nodes]
        for (place, one), (at, other) in itertools.product(enumerate(nodes), repeat=2):
            self.assertIs(one == other, triples[place] == triples[at])
            self.assertIs(one != other, triples[place] != triples[at])

    def test_equal_to_no_other_value(self):
        for node in stretch_tree(straight("abc"), straight("acb")).walk():
            others = [node.names, node.kind, node.children, list(node.names), triple_of(node), list(node.walk())]
            for value in ANY_VALUES + others:
                self.assertIs(node == value, False)
                self.assertIs(value == node, False)
                self.assertIs(node != value, True)

    def test_walking_anew_each_time(self):
        tree = stretch_tree(straight("abc"), straight("acb"))
        walk = tree.walk()
        self.assertIs(iter(walk), walk)
        self.assertIs(next(walk), tree)
        self.assertEqual([node.names for node in tree.walk()][1:], [node.names for node in walk])
        for name in ("names", "kind", "children"):
            with self.assertRaises(AttributeError):
                setattr(tree, name, ())


class ReversedRowTest(Case):
    """Promise 6."""

    def test_every_reversal(self):
        for count in (1, 2, 3, 7, 30):
            row = scattered_row(count, count)
            for first, last in itertools.combinations_with_replacement(range(count), 2):
                after = reversed_row(row, first, last)
                self.assertEqual(after, reversed_by_hand(row, first, last + 1))
                self.assertEqual(reversed_row(last=last, first=first, row=after), row)
                self.assertIs(after.__class__, tuple)
            self.assertEqual(row, scattered_row(count, count))

    def test_no_row(self):
        for value in NO_ROWS:
            with self.subTest(value=value):
                self.assert_refused(InvalidRow, {"value": value}, reversed_row, value, 0, 0)
                self.assert_refused(InvalidRow, {"value": value}, reversed_row, value, None, -1)
                self.assert_refused(InvalidRow, {"value": value}, reversed_row, last=-1, first=5, row=value)

    def test_no_index(self):
        for count in (1, 2, 5, 30):
            row = scattered_row(count, 1)
            wrong = [value for value in ANY_VALUES if value.__class__ is not int or not 0 <= value < count]
            for value in wrong + [count, count + 1, -count, str(count), (0,)]:
                with self.subTest(count=count, value=value):
                    self.assert_refused(InvalidNumber, {"value": value}, reversed_row, row, value, 0)
                    self.assert_refused(InvalidNumber, {"value": value}, reversed_row, row, value, [])
                    self.assert_refused(InvalidNumber, {"value": value}, reversed_row, row, 0, value)

    def test_last_before_first(self):
        row = scattered_row(6, 2)
        for last, first in itertools.combinations(range(6), 2):
            self.assert_refused(InvalidNumber, {"value": last}, reversed_row, row, first, last)


def goal_searched(count):
    """The dict from each row to the least number of reversals that keep all stretches to the straight row."""
    goal = straight(NAMES[:count])
    sources = {}
    for row in rows_of(count):
        found = windows(row) & windows(goal)
        for start, stop in itertools.combinations(range(count + 1), 2):
            part = frozenset([name for name, _ in row[start:stop]])
            if all([part <= kept or kept <= part or not part & kept for kept in found]):
                sources.setdefault(reversed_by_hand(row, start, stop), []).append(row)
    distances, level = {goal: 0}, [goal]
    while level:
        before = {row: distances[after] + 1 for after in level for row in sources[after] if row not in distances}
        distances.update(before)
        level = list(before)
    return distances


def renamed(row, names, turns):
    """The row with other names, some of the wagons turned around."""
    return tuple([(names[name], direction * turns[name]) for name, direction in row])


class KeptTest(Case):
    """Promise 7."""

    def assert_plan(self, one, other):
        """The plan is one by its properties, and has as many stretches as the distance says."""
        stretches = kept_plan(one, other)
        self.assertIs(stretches.__class__, list)
        self.assertEqual(len(set(stretches)), len(stretches))
        self.assertEqual(kept_distance(one, other), len(stretches))
        self.assertIs(kept_distance(one, other).__class__, int)
        for names in stretches:
            self.assertIs(is_stretch(one, other, names), True)
        orders = itertools.permutations(stretches) if len(stretches) < 4 else [
            shuffled(stretches, seed) for seed in range(5)
        ]
        for order in orders:
            row = one
            for names in order:
                row = self.row_after(row, names, other)
            self.assertEqual(row, other)

    def row_after(self, row, names, other):
        """The row in which these wagons, which stand next to each other, are turned around; no stretch is broken."""
        places = [at for at, (name, _) in enumerate(row) if name in names]
        self.assertEqual(places, list(range(places[0], places[0] + len(names))))
        for kept in windows(row) & windows(other) if len(row) < 8 else []:
            part = frozenset(names)
            self.assertTrue(part <= kept or kept <= part or not part & kept)
        return reversed_by_hand(row, places[0], places[-1] + 1)

    def test_by_a_search(self):
        for count in (1, 2, 3, 4, 5):
            goal = straight(NAMES[:count])
            distances = goal_searched(count)
            turns = {name: Dice(place).one_of((1, -1)) for place, name in enumerate(NAMES[:count])}
            others = dict(zip(NAMES[:count], ["bb", "q", "zz", "ab", "b"]))
            plain = 0
            for row in rows_of(count):
                if "prime" in [kind for _, kind, _ in triples_in(tree_by_hand(row, goal))]:
                    continue
                self.assertEqual(kept_distance(row, goal), distances[row])
                pair = [renamed(each, others, turns) for each in (row, goal)]
                self.assertEqual(kept_distance(*pair), distances[row])
                plain += 1
                if count < 5 or plain % 7 == 0:
                    self.assert_plan(row, goal)
                    self.assert_plan(*pair)
            self.assertGreater(plain, 0)

    def test_larger_rows(self):
        for one, other in LARGE_PAIRS + KNOTTED:
            primes = [node.names for node in stretch_tree(one, other).walk() if node.kind == "prime"]
            if not primes:
                self.assert_plan(one, other)
                self.assert_plan(other, one)

    def test_known_plans(self):
        row = straight("abcd")
        self.assertEqual(kept_plan(row, row), [])
        self.assertEqual(kept_plan(row, turned_by_hand(row)), [tuple("abcd")])
        self.assertEqual(kept_distance(row, straight("dcba")), 5)
        self.assertEqual(kept_plan(straight("a"), (("a", -1),)), [("a",)])
        self.assertEqual(kept_plan(straight("a"), straight("a")), [])
        for size in range(1, 31):
            row = straight(NAMES[:size])
            for start, stop in [(0, size), (0, 1), (size // 3, size), (size // 2, size // 2 + 1)]:
                expected = [tuple(NAMES[start:stop])]
                self.assertEqual(kept_plan(row, reversed_by_hand(row, start, stop)), expected)

    def test_prime_exactly_if_there_is_a_prime_node(self):
        count = 0
        for one, other in PAIRS:
            primes = [names for names, kind, _ in triples_in(tree_by_hand(one, other)) if kind == "prime"]
            for function in (kept_distance, kept_plan) if primes else []:
                with self.assertRaises(PrimeStretch) as caught:
                    function(one, other)
                self.assertEqual(vars(caught.exception), {"stretch": primes[0]})
                self.assertIs(caught.exception.stretch.__class__, tuple)
            if not primes:
                self.assertEqual(len(kept_plan(one, other)), kept_distance(one, other))
            count += len(primes) > 1
        self.assertGreater(count, 0)

    def test_the_first_prime_node_in_the_order_of_walk(self):
        one = straight("abcdefgh")
        for texts, stretch in [("bdacfheg", "abcd"), ("fhegbdac", "abcd"), ("bdacefgh", "abcd"), ("abcdfheg", "efgh")]:
            for function in (kept_distance, kept_plan):
                with self.assertRaises(PrimeStretch) as caught:
                    function(other=straight(texts), one=one)
                self.assertEqual(caught.exception.stretch, tuple(stretch))

    def test_a_new_list_each_time(self):
        one, other = straight("abc"), (("c", 1), ("a", -1), ("b", 1))
        for pair in [(one, other), (one, one)]:
            stretches = kept_plan(*pair)
            kept = list(stretches)
            stretches.append(None)
            self.assertEqual(kept_plan(*pair), kept)


class WrongRowsTest(Case):
    """Promise 8."""

    CALLS = [stretch_tree, kept_distance, kept_plan, lambda one, other: is_stretch(one, other, ("a",))]

    def test_first_value_that_is_no_row(self):
        good = straight("a")
        for function in self.CALLS:
            for value in NO_ROWS:
                with self.subTest(value=value):
                    self.assert_refused(InvalidRow, {"value": value}, function, value, good)
                    self.assert_refused(InvalidRow, {"value": value}, function, good, value)
                    self.assert_refused(InvalidRow, {"value": value}, function, value, ())
                    self.assert_refused(InvalidRow, {"value": value}, function, other=None, one=value)
        self.assert_refused(InvalidRow, {"value": ()}, is_stretch, (), (), ())

    def test_other_wagons(self):
        prime = straight("bdac")
        for function in self.CALLS:
            for one, other in [
                (straight("a"), straight("b")), (straight("ab"), straight("a")), (straight("a"), straight("ab")),
                (straight("abcd"), prime[:3]), (straight("abcde"), prime), (straight("abcf"), prime),
                (straight(NAMES[:30]), straight(NAMES[1:31])), ((("ab", 1),), straight("ab")),
            ]:
                self.assert_refused(OtherWagons, {}, function, one, other)


if __name__ == "__main__":
    unittest.main()
