"""Points [16] and [17]; promises 9 to 13 of the stage about orders, and the examples of the family's section."""

import copy
import itertools
import unittest

from shuntplan.errors import InvalidFamily, InvalidLayout, InvalidNumber, OtherWagons
from shuntplan.family import Family, change, majority
from shuntplan.layouts import Layout
from shuntplan.trains import Line
from tests.samples import ANY_VALUES, NAMES, SMALL, Case, Dice, ends_of, scattered, shuffled

AB, APART, OTHER = Layout.read("a b"), Layout.read("a / b"), Layout.read("a / c")
NO_LAYOUTS = ANY_VALUES + ["a b", [AB], (AB,), {"x": AB}, Line((("a", 1),)), Layout]
LARGE = [scattered(NAMES[:count], seed, free) for count in (5, 12, 30) for seed in range(4) for free in (0, 4, 8)]


def change_by_hand(one, other):
    return len(set(one.couplings) ^ set(other.couplings))


def comb(leaves):
    """The family whose left part is one leaf deeper at each place."""
    shape = leaves[0]
    for leaf in leaves[1:]:
        shape = (shape, leaf)
    return shape


def even(leaves):
    """The family whose parts have as many leaves each, or nearly so."""
    if len(leaves) == 1:
        return leaves[0]
    half = len(leaves) // 2
    return (even(leaves[:half]), even(leaves[half:]))


def shapes_of(leaves):
    """All families with these leaves from left to right."""
    if len(leaves) == 1:
        return [leaves[0]]
    return [
        (left, right) for at in range(1, len(leaves))
        for left in shapes_of(leaves[:at]) for right in shapes_of(leaves[at:])
    ]


def places_by_hand(shape):
    if isinstance(shape, str):
        return ()
    return (shape,) + places_by_hand(shape[0]) + places_by_hand(shape[1])


def cost_by_hand(shape, layouts, filling):
    branches = [(place, part) for place in places_by_hand(shape) for part in place]
    found = {**layouts, **filling}
    return sum([change_by_hand(found[place], found[part]) for place, part in branches])


def least_by_choosing(shape, layouts, choice):
    """The least cost over all choices of layouts at the inner places, tried one after the other."""
    places = places_by_hand(shape)
    fillings = [dict(zip(places, chosen)) for chosen in itertools.product(choice, repeat=len(places))]
    return min([cost_by_hand(shape, layouts, filling) for filling in fillings])


def least_by_place(shape, layouts, choice):
    """The dict from each choice at a place to the least cost within it, all choices below it taken into account."""
    if isinstance(shape, str):
        return {layouts[shape].couplings: 0}
    found = {couplings: 0 for couplings in choice}
    for part in shape:
        below = least_by_place(part, layouts, choice)
        for couplings in found:
            found[couplings] += min([cost + len(set(couplings) ^ set(lower)) for lower, cost in below.items()])
    return found


def least_by_couplings(shape, layouts):
    """The sum over all couplings of the least numbers of branches along which one of them appears or vanishes."""
    pairs = itertools.combinations(ends_of(list(layouts.values())[0].wagons), 2)
    return sum([min(branches_of(shape, layouts, pair)) for pair in pairs])


def branches_of(shape, layouts, pair):
    """The least number of branches within a family if the coupling is absent in it, and if it is present."""
    if isinstance(shape, str):
        return (1000, 0) if pair in layouts[shape].couplings else (0, 1000)
    parts = [branches_of(part, layouts, pair) for part in shape]
    return tuple([sum([min(part[have], part[1 - have] + 1) for part in parts]) for have in (0, 1)])


SHAPES = [comb(list("zyxwvut")), even(list("stuvwxyz")), even(NAMES[:16]), "x", ("y", "x"), (("b", "a"), ("d", "c"))]
SHAPES += [shape for count in (3, 4) for shape in shapes_of(list("pqrs")[:count])]
SHAPES += [(("a", (("b", "c"), "d")), ("e", ("f", (("g", "h"), "i"))))]


class ExampleTest(unittest.TestCase):
    def test_examples(self):
        self.assertEqual(majority(Layout.read("a b"), Layout.read("a b"), Layout.read("b a")).text(), "a b")
        self.assertEqual(Family((("x", "y"), "z")).places, ((("x", "y"), "z"), ("x", "y")))
        layouts = {"x": Layout.read("a b"), "y": Layout.read("a / b")}
        self.assertEqual(Family(("x", "y")).fill(layouts)[0], 1)
        self.assertEqual(Family(("x", "y")).cost(layouts, {("x", "y"): Layout.read("(a) / b")}), 3)


class ChangeTest(Case):
    """Promise 9."""

    def test_all_small_pairs(self):
        for layouts in SMALL:
            for one, other in itertools.product(layouts[::2], layouts):
                expected = change_by_hand(one, other)
                self.assertEqual((change(one, other), change(other=one, one=other)), (expected, expected))

    def test_larger_pairs(self):
        for one, other in itertools.combinations(LARGE, 2):
            if one.wagons == other.wagons:
                self.assertEqual(change(one, other), change_by_hand(one, other))
                self.assertEqual(change(one, other), change(other, one))
                self.assertIs(change(one, other).__class__, int)
        for layout in LARGE:
            self.assertEqual(change(layout, Layout(layout.wagons, layout.couplings)), 0)
            self.assertEqual(change(layout, Layout(layout.wagons)), len(layout))

    def test_errors(self):
        for value in NO_LAYOUTS:
            with self.subTest(value=value):
                self.assert_refused(InvalidLayout, {"value": value}, change, value, AB)
                self.assert_refused(InvalidLayout, {"value": value}, change, AB, value)
                self.assert_refused(InvalidLayout, {"value": value}, change, value, None)
                self.assert_refused(InvalidLayout, {"value": value}, change, other=OTHER, one=value)
        for one, other in [(AB, OTHER), (AB, Layout(["a"])), (Layout([]), AB)]:
            self.assert_refused(OtherWagons, {}, change, one, other)


class MajorityTest(Case):
    """Promise 10."""

    def majority_by_hand(self, layouts):
        pairs = [pair for layout in layouts for pair in layout.couplings]
        return Layout(layouts[0].wagons, sorted({pair for pair in pairs if 2 * pairs.count(pair) > len(layouts)}))

    def test_one_layout(self):
        for layout in LARGE + SMALL[2] + SMALL[0]:
            self.assertEqual(majority(layout), layout)

    def test_no_layout_has_a_smaller_sum_of_changes(self):
        for count, step in [(1, 1), (2, 1), (3, 13)]:
            for layouts in itertools.combinations_with_replacement(SMALL[count][::step], 3):
                found = majority(*layouts)
                self.assertEqual(found, self.majority_by_hand(layouts))
                sums = [sum([change_by_hand(layout, other) for other in layouts]) for layout in SMALL[count]]
                self.assertEqual(sum([change_by_hand(found, layout) for layout in layouts]), min(sums))
                for order in itertools.permutations(layouts):
                    self.assertEqual(majority(*order), found)

    def test_five_and_more_layouts(self):
        for count in (5, 7, 31):
            for seed in range(6):
                dice = Dice(seed)
                layouts = [dice.one_of(SMALL[3][::9]) for _ in range(count)]
                found = majority(*layouts)
                self.assertEqual(found, self.majority_by_hand(layouts))
                self.assertEqual(majority(*shuffled(layouts, seed)), found)
                sums = [sum([change_by_hand(layout, other) for other in layouts]) for layout in SMALL[3]]
                self.assertEqual(sum([change_by_hand(found, layout) for layout in layouts]), min(sums))

    def test_more_than_half(self):
        ring = Layout.read("(a b)")
        self.assertEqual(majority(AB, APART, APART), APART)
        self.assertEqual(majority(AB, APART, ring), AB)
        self.assertEqual(majority(AB, APART, AB, APART, ring).text(), "a b")
        self.assertEqual(majority(ring, APART, ring, APART, AB).text(), "a b")
        self.assertEqual(majority(ring, AB, ring, APART, ring).text(), "(a b)")
        large = [layout for layout in LARGE if len(layout.wagons) == 30][:5]
        self.assertEqual(majority(*(large[:2] + large[:1])), large[0])

    def test_errors(self):
        for value in NO_LAYOUTS:
            with self.subTest(value=value):
                self.assert_refused(InvalidLayout, {"value": value}, majority, value)
                self.assert_refused(InvalidLayout, {"value": value}, majority, AB, value)
                self.assert_refused(InvalidLayout, {"value": value}, majority, AB, OTHER, value, None)
        for layouts in [(AB, OTHER), (AB, AB, OTHER), (AB, OTHER, AB), (OTHER, AB, AB, AB), (AB, Layout([]))]:
            self.assert_refused(OtherWagons, {}, majority, *layouts)
        for count in (0, 2, 4, 30):
            with self.assertRaises(InvalidNumber) as caught:
                majority(*[AB] * count)
            self.assertEqual(vars(caught.exception), {"value": count})
            self.assertIs(caught.exception.value.__class__, int)


class FamilyTest(Case):
    """Promise 11."""

    def test_leaves_and_places(self):
        for shape in SHAPES:
            family = Family(shape=shape)
            leaves = tuple([place for place in self.parts_of(shape) if isinstance(place, str)])
            self.assertEqual((family.leaves, family.places), (leaves, places_by_hand(shape)))
            self.assertEqual((len(family), len(family.places)), (len(leaves), len(leaves) - 1))
            self.assertEqual((family.leaves.__class__, family.places.__class__), (tuple, tuple))

    def parts_of(self, shape):
        if isinstance(shape, str):
            return [shape]
        return [shape] + self.parts_of(shape[0]) + self.parts_of(shape[1])

    def test_known_families(self):
        family = Family((("d", "c"), (("b", "a"), "e")))
        self.assertEqual(family.leaves, ("d", "c", "b", "a", "e"))
        right = (("b", "a"), "e")
        self.assertEqual(family.places, ((("d", "c"), right), ("d", "c"), right, ("b", "a")))
        self.assertEqual((Family("leaf").leaves, Family("leaf").places, len(Family("leaf"))), (("leaf",), (), 1))
        for name in ("leaves", "places"):
            with self.assertRaises(AttributeError):
                setattr(family, name, ())

    def test_equal_exactly_with_equal_shapes(self):
        for one, other in itertools.product(SHAPES, repeat=2):
            self.assertIs(Family(one) == Family(copy.deepcopy(other)), one == other)
            self.assertIs(Family(one) != Family(other), one != other)
        self.assertIs(Family(("x", "y")) == Family(("y", "x")), False)
        self.assertIs(Family((("x", "y"), "z")) == Family(("x", ("y", "z"))), False)

    def test_equal_to_no_other_value(self):
        for shape in SHAPES:
            for value in ANY_VALUES + [shape, Family(shape).leaves, Family(shape).places, [shape], Layout(["x"])]:
                self.assertIs(Family(shape) == value, False)
                self.assertIs(value == Family(shape), False)
                self.assertIs(Family(shape) != value, True)

    def test_limits(self):
        seven, sixteen = NAMES[:7], NAMES[:16]
        self.assertEqual(len(Family(comb(seven))), 7)
        self.assertEqual(len(Family(even(sixteen))), 16)
        self.assertEqual(len(Family((comb(seven[:6]), comb(NAMES[6:12])))), 12)
        self.assertEqual(len(Family((even(NAMES[:8]), (even(NAMES[8:12]), even(NAMES[12:16]))))), 16)

    def test_no_family(self):
        wrong = [
            comb(NAMES[:8]), (comb(NAMES[:7]), "z"), ("z", comb(NAMES[:7])), even(NAMES[:17]), even(NAMES[:32]),
            even(NAMES[:52]), (even(NAMES[:8]), even(NAMES[8:17])), ("x", "x"), (("x", "y"), "x"),
            (("x", "y"), ("z", "y")), ("x",), ("x", "y", "z"), ("x", ("y",)), (("x", "y", "z"), "w"), (), ("x", ()),
            ["x", "y"], ("x", ["y", "z"]), (["x", "y"], "z"), "X", "", "x y", ("x", "Y"), ("x", "abcdefghi"),
            ("x", 1), ("x", None), (None, "x"), ("x", True), ("x", {}), {"x": "y"}, ("x", {"y": "z"}), 5,
            ("x", ("y", ("z", 5))), (("x", ""), "y"), "x\n",
        ]
        for value in wrong + [value for value in ANY_VALUES if value not in ("a", ("a", "b"))]:
            with self.subTest(value=value):
                self.assert_refused(InvalidFamily, {"value": value}, Family, value)
                self.assert_refused(InvalidFamily, {"value": value}, Family, shape=value)


def wrong_dicts(keys, layout):
    """Values that are no dicts from exactly these keys to Layouts."""
    good = {key: layout for key in keys}
    wrong = [
        {**good, "more": layout}, {**good, ("more", "x"): layout}, {**good, None: layout}, {**good, 0: layout},
        list(good), list(good.items()), tuple(good.values()), layout, Family,
    ]
    for key in keys:
        less = {other: layout for other in keys if other != key}
        wrong += [less, {**less, "other": layout}, {**less, (key, key): layout}, {**less, str(key) + "x": layout}]
        wrong += [{**less, key: value} for value in (None, "a b", [layout], {key: layout}, 0, Layout, True)]
    return wrong + [value for value in ANY_VALUES if value != good]


class CostTest(Case):
    """Promise 12."""

    def test_all_small_fillings(self):
        for shape in [("x", "y"), (("x", "y"), "z"), ("x", ("y", "z"))]:
            family = Family(shape)
            for chosen in itertools.product(SMALL[1] if len(family) > 2 else SMALL[2], repeat=2 * len(family) - 1):
                layouts = dict(zip(family.leaves, chosen))
                filling = dict(zip(family.places, chosen[len(family):]))
                self.assertEqual(family.cost(layouts, filling), cost_by_hand(shape, layouts, filling))

    def test_keys_in_any_order(self):
        for shape in SHAPES:
            family = Family(shape)
            for seed in range(4):
                dice = Dice(seed)
                layouts = {leaf: dice.one_of(SMALL[3]) for leaf in shuffled(family.leaves, seed)}
                filling = {place: dice.one_of(SMALL[3]) for place in shuffled(family.places, seed)}
                before = [list(layouts.items()), list(filling.items())]
                found = family.cost(layouts=layouts, filling=filling)
                self.assertEqual(found, cost_by_hand(shape, layouts, filling))
                self.assertIs(found.__class__, int)
                self.assertEqual(family.cost(filling=filling, layouts=layouts), found)
                self.assertEqual([list(layouts.items()), list(filling.items())], before)

    def test_one_leaf(self):
        for layout in SMALL[2] + LARGE:
            self.assertEqual(Family("x").cost({"x": layout}, {}), 0)

    def test_errors_for_the_layouts_come_first(self):
        family = Family((("x", "y"), "z"))
        for value in wrong_dicts("xyz", AB):
            with self.subTest(value=value):
                self.assert_refused_with(value, family.cost, value, None)
                self.assert_refused_with(value, family.cost, value, {place: OTHER for place in family.places})
        for place in "xyz":
            layouts = {leaf: OTHER if leaf == place else AB for leaf in "xyz"}
            self.assert_refused(OtherWagons, {}, family.cost, layouts, None)
            self.assert_refused(OtherWagons, {}, family.cost, layouts, {place: AB for place in family.places})

    def assert_refused_with(self, value, call, *arguments):
        """As assert_refused, without copies: a dict with Layouts is compared with what it held."""
        before = list(value.items()) if isinstance(value, dict) else None
        with self.assertRaises(InvalidFamily) as caught:
            call(*arguments)
        self.assertIs(caught.exception.__class__, InvalidFamily)
        self.assertIs(caught.exception.value, value)
        self.assertEqual(list(value.items()) if isinstance(value, dict) else None, before)

    def test_errors_for_the_filling(self):
        family = Family((("x", "y"), "z"))
        layouts = {leaf: AB for leaf in "xyz"}
        for layout in (AB, OTHER):
            for value in wrong_dicts(family.places, layout):
                with self.subTest(value=value):
                    self.assert_refused_with(value, family.cost, layouts, value)
        for value in [None, [], (), "", {"x": AB}, {("x", "y"): AB}]:
            self.assert_refused_with(value, Family("x").cost, {"x": AB}, value)

    def test_other_wagons(self):
        family = Family((("x", "y"), "z"))
        layouts = {leaf: AB for leaf in "xyz"}
        one, other = family.places
        for filling in [{one: OTHER, other: OTHER}, {one: OTHER, other: AB}, {one: AB, other: OTHER}]:
            self.assert_refused(OtherWagons, {}, family.cost, layouts, filling)
            self.assert_refused(OtherWagons, {}, family.cost, filling=filling, layouts=layouts)
        self.assert_refused(OtherWagons, {}, family.cost, {leaf: OTHER for leaf in "xyz"}, {one: AB, other: AB})


class FillTest(Case):
    """Promise 13."""

    def assert_filled(self, shape, layouts, least):
        family = Family(shape)
        found = family.fill(layouts)
        self.assertEqual((found.__class__, len(found)), (tuple, 2))
        cost, filling = found
        self.assertEqual((cost.__class__, filling.__class__), (int, dict))
        self.assertEqual((cost, family.cost(layouts, filling)), (least, least))
        self.assertEqual(cost_by_hand(shape, layouts, filling), least)
        self.assertEqual(set(filling), set(family.places))
        for layout in filling.values():
            self.assertIs(layout.__class__, Layout)
            self.assertEqual(layout.wagons, layouts[family.leaves[0]].wagons)
            self.assertEqual(Layout(layout.wagons, layout.couplings), layout)

    def test_all_choices_for_two_wagons(self):
        for x, y in itertools.product(SMALL[2], repeat=2):
            layouts = {"y": y, "x": x}
            self.assert_filled(("x", "y"), layouts, least_by_choosing(("x", "y"), layouts, SMALL[2]))
        for shape in shapes_of(["x", "y", "z"]):
            for chosen in list(itertools.product(SMALL[2], repeat=3))[::17]:
                layouts = dict(zip("xyz", chosen))
                self.assert_filled(shape, layouts, least_by_choosing(shape, layouts, SMALL[2]))
        for shape in shapes_of(["w", "x", "y", "z"]):
            for chosen in list(itertools.product(SMALL[1], repeat=4)):
                layouts = dict(zip("wxyz", chosen))
                self.assert_filled(shape, layouts, least_by_choosing(shape, layouts, SMALL[1]))

    def test_all_choices_place_by_place(self):
        for count, step, seeds in [(2, 1, range(25)), (3, 3, range(4))]:
            choice = [layout.couplings for layout in SMALL[count]]
            for shape in SHAPES:
                for seed in seeds:
                    dice = Dice(seed)
                    layouts = {leaf: dice.one_of(SMALL[count][::step]) for leaf in Family(shape).leaves}
                    if len(layouts) * len(choice) < 400:
                        least = min(least_by_place(shape, layouts, choice).values())
                        self.assertEqual(least_by_couplings(shape, layouts), least)
                        self.assert_filled(shape, layouts, least)

    def test_many_wagons_and_leaves(self):
        for shape in SHAPES:
            leaves = Family(shape).leaves
            for count in (4, 12, 30):
                # Few different layouts, so that many couplings are at several leaves.
                few = [scattered(NAMES[:count], seed, 2 * seed) for seed in range(3)]
                few += [Layout.read(" ".join(NAMES[:count])), Layout.read("(" + " ".join(NAMES[1:count] + ["a"]) + ")")]
                for seed in range(3):
                    dice = Dice(seed + count)
                    layouts = {leaf: dice.one_of(few) for leaf in leaves}
                    self.assert_filled(shape, layouts, least_by_couplings(shape, layouts))

    def test_equal_layouts_cost_nothing(self):
        for shape in SHAPES:
            layouts = {leaf: LARGE[-1] for leaf in Family(shape).leaves}
            cost, filling = Family(shape).fill(layouts)
            self.assertEqual((cost, [layout == LARGE[-1] for layout in filling.values()]), (0, [True] * len(filling)))

    def test_one_leaf_and_no_wagons(self):
        self.assertEqual(Family("x").fill({"x": AB}), (0, {}))
        self.assertEqual(Family("x").fill({"x": Layout([])}), (0, {}))
        nothing = Layout([])
        self.assertEqual(Family(("x", "y")).fill({"x": nothing, "y": Layout([])}), (0, {("x", "y"): nothing}))

    def test_couplings_that_exclude_each_other(self):
        texts = ["a b / c / d", "a c / b / d", "a d / b / c", "a -b / c / d", "(a) / b / c / d", "(a b) / (c d)"]
        for shape in SHAPES:
            leaves = Family(shape).leaves
            for seed in range(6):
                dice = Dice(seed)
                layouts = {leaf: Layout.read(dice.one_of(texts)) for leaf in leaves}
                self.assert_filled(shape, layouts, least_by_couplings(shape, layouts))

    def test_dicts_stay_and_are_new(self):
        family = Family((("x", "y"), "z"))
        layouts = {"z": AB, "x": APART, "y": AB}
        first = family.fill(layouts=layouts)
        self.assertEqual(list(layouts.items()), [("z", AB), ("x", APART), ("y", AB)])
        kept = (first[0], dict(first[1]))
        first[1].clear()
        self.assertEqual(family.fill(layouts), kept)
        layouts.clear()
        self.assertEqual(family.fill({"x": APART, "y": AB, "z": AB}), kept)
        self.assertEqual((family.leaves, family.places), (("x", "y", "z"), ((("x", "y"), "z"), ("x", "y"))))

    def test_no_dict_from_the_leaves(self):
        for shape, leaves in [("x", "x"), (("x", "y"), "xy"), ((("x", "y"), "z"), "xyz")]:
            family = Family(shape)
            for value in wrong_dicts(leaves, AB) + [{place: AB for place in family.places}]:
                with self.subTest(shape=shape, value=value):
                    with self.assertRaises(InvalidFamily) as caught:
                        family.fill(value)
                    self.assertIs(caught.exception.value, value)
        mixed = {("x", "y"): AB, "z": AB, "x": AB}
        with self.assertRaises(InvalidFamily) as caught:
            Family((("x", "y"), "z")).fill(layouts=mixed)
        self.assertIs(caught.exception.value, mixed)
        wrong = {"x": AB, "y": OTHER, "z": None}
        with self.assertRaises(InvalidFamily) as caught:
            Family((("x", "y"), "z")).fill(wrong)
        self.assertIs(caught.exception.value, wrong)

    def test_other_wagons(self):
        for place in "xyz":
            layouts = {leaf: OTHER if leaf == place else AB for leaf in "xyz"}
            self.assert_refused(OtherWagons, {}, Family((("x", "y"), "z")).fill, layouts)
        self.assert_refused(OtherWagons, {}, Family(("x", "y")).fill, {"x": AB, "y": Layout([])})


if __name__ == "__main__":
    unittest.main()
