"""Point [2] and the interface over the whole program; promise 18 of the stage about orders."""

import copy
import importlib
import inspect
import itertools
import unittest

from shuntplan.compare import best_next, comparison, distance, is_plan, plan
from shuntplan.counts import layout_at, layout_count, number_of, packed, plan_count, unpacked
from shuntplan.family import Family, change, majority
from shuntplan.journal import Journal
from shuntplan.layouts import Layout, common, difference
from shuntplan.orders import exchanged_order, order_distance, order_plan
from shuntplan.steps import Couple, Cut, are_neighbours, exchanged, neighbours, reversed_stretch
from shuntplan.stretches import is_stretch, kept_distance, kept_plan, reversed_row, stretch_tree
from shuntplan.trains import Line, Ring, Train, is_end, is_name, is_row, turned
from tests.samples import ends_of, straight

# What the interface lists: the parameters of each function and, for a class, what stands in its own body.
FUNCTIONS = {
    "trains": {"is_name": "value", "is_end": "value", "is_row": "value", "turned": "row"},
    "layouts": {"common": "one other", "difference": "one other"},
    "steps": {
        "neighbours": "layout", "are_neighbours": "one other", "reversed_stretch": "layout first last",
        "exchanged": "layout first last third fourth",
    },
    "compare": {
        "comparison": "one other", "distance": "one other", "plan": "one other", "best_next": "one other",
        "is_plan": "value",
    },
    "counts": {
        "plan_count": "one other", "layout_count": "wagons", "number_of": "layout", "layout_at": "wagons number",
        "packed": "layout", "unpacked": "wagons values",
    },
    "orders": {"exchanged_order": "order exchange", "order_distance": "one other", "order_plan": "one other"},
    "stretches": {
        "stretch_tree": "one other", "is_stretch": "one other names", "reversed_row": "row first last",
        "kept_distance": "one other", "kept_plan": "one other",
    },
    "family": {"change": "one other", "majority": "layouts"},
}
TRAIN = {"__init__": "row", "row": None, "text": "", "links": "", "__len__": "", "__contains__": "name"}
CLASSES = {
    "trains": {"Train": TRAIN, "Line": {**TRAIN}, "Ring": {**TRAIN}},
    "layouts": {"Layout": {
        "__init__": "wagons couplings", "of": "trains", "read": "text", "wagons": None, "couplings": None, "free": None,
        "trains": "", "text": "", "__len__": "", "__eq__": "other", "__getitem__": "end", "__contains__": "coupling",
    }},
    "steps": {
        "Step": {"ends": None, "__call__": "layout"},
        "Couple": {"__init__": "one other", "ends": None, "__call__": "layout"},
        "Cut": {"__init__": "end", "ends": None, "__call__": "layout"},
    },
    "compare": {"Component": {"kind": None, "need": None, "ends": None, "__len__": ""}},
    "stretches": {"Node": {"names": None, "kind": None, "children": None, "walk": "", "__len__": ""}},
    "family": {"Family": {
        "__init__": "shape", "leaves": None, "places": None, "__len__": "", "fill": "layouts",
        "cost": "layouts filling",
    }},
    "journal": {"Journal": {
        "__init__": "layout", "layout": None, "moment": None, "layout_after": "moment", "do": "deed", "batch": "deeds",
        "trial": "deeds", "undo": "", "redo": "", "__len__": "",
    }},
}

A0, A1, B0, B1, C0, C1 = ends_of("abc")
ROW, MIXED = straight("abcd"), (("b", 1), ("a", -1), ("d", -1), ("c", 1))
ORDERS = (tuple("abcde"), tuple("edbac"))
ONE, OTHER, NEAR = Layout.read("a b c / d"), Layout.read("(a c) / -d b"), Layout.read("a b / c / d")
FAR = Layout.read("a / e")
FAMILY = Family((("x", "y"), "z"))
AT_LEAVES = {"x": ONE, "y": OTHER, "z": NEAR}
FILLING = {FAMILY.places[1]: OTHER, FAMILY.places[0]: NEAR}


def same(thing):
    """What makes a callable that no call changes."""
    return lambda: thing


def on_a_journal(name):
    """What makes this method of a new journal on which something can be undone and redone."""
    def make():
        journal = Journal(ONE)
        for deed in (("add", "e"), ("cut", A1), ("add", "f")):
            journal.do(deed)
        journal.undo()
        return getattr(journal, name)
    return make


# Each question is what makes the callable, and its arguments by name, in the order of the interface.
QUESTIONS = [
    (same(function), {"value": value})
    for function in (is_name, is_end, is_row)
    for value in ("ab", A0, ROW, ["a"], {"a": [1]}, None)
] + [
    (same(function), {"row": row})
    for function in (turned, Train, Line, Ring) for row in (ROW, MIXED, (), [("a", 1)], (("a", 1), ("a", -1)))
    if function is not Train or row not in (ROW, MIXED)
] + [
    (same(Layout), {"wagons": ["b", "a"], "couplings": [(B0, A1)]}), (same(Layout), {"wagons": ("b", "a")}),
    (same(Layout), {"wagons": ["a", "a"], "couplings": None}),
    (same(Layout), {"wagons": ["a"], "couplings": [(A0, B0)]}),
    (same(Layout), {"wagons": ["a"], "couplings": {}}), (same(Layout.read), {"text": "c / -b -a"}),
    (same(Layout.read), {"text": "a b a"}), (same(Layout.read), {"text": ["a"]}),
    (same(Couple), {"one": B0, "other": A1}), (same(Couple), {"one": B0, "other": ["a", 1]}),
    (same(Couple), {"one": None, "other": 0}), (same(Couple), {"one": A0, "other": A0}),
    (same(Cut), {"end": A0}), (same(Cut), {"end": ("a", 2)}),
] + [
    (same(step), {"layout": layout})
    for step in (Couple(A1, B0), Couple(C1, A1), Cut(A1), Cut(A0)) for layout in (ONE, OTHER, FAR, "a b")
] + [
    (same(function), {"layout": layout})
    for function in (neighbours, number_of, packed) for layout in (ONE, OTHER, FAR, [ONE], None)
] + [
    (same(function), {"one": one, "other": other})
    for function in (
        common, difference, are_neighbours, comparison, distance, plan, best_next, plan_count, change,
    )
    for one, other in ((ONE, OTHER), (OTHER, ONE), (ONE, NEAR), (ONE, ONE), (ONE, FAR), (ONE, "a"), ([], None))
] + [
    (same(reversed_stretch), {"layout": ONE, "first": first, "last": last})
    for first, last in (("a", "b"), ("b", "a"), ("a", "d"), ("z", ["a"]))
] + [
    (same(exchanged), {"layout": layout, "first": "a", "last": last, "third": third, "fourth": "c"})
    for layout, last, third in ((ONE, "a", "b"), (ONE, "b", "b"), (ONE, "d", "c"), (ONE, "a", {}), (5, "a", "b"))
] + [
    (same(is_plan), {"value": value}) for value in ([ONE, NEAR], (NEAR, ONE), [ONE, OTHER], [ONE, []], {"a": ONE})
] + [
    (same(layout_count), {"wagons": wagons}) for wagons in (0, 7, 30, 31, True, [3])
] + [
    (same(layout_at), {"wagons": wagons, "number": number})
    for wagons, number in ((["b", "a"], 7), (("a",), 1), (["a"], 2), (["a", "A"], -1), (["a"], [1]))
] + [
    (same(unpacked), {"wagons": wagons, "values": values})
    for wagons, values in ((["b", "a"], [7]), (("a", "b"), (9,)), (["a"], [2]), (["a"], [True]), ({}, None))
] + [
    (same(exchanged_order), {"order": order, "exchange": exchange})
    for order in (ORDERS[0], ["a"]) for exchange in ((0, 1, 2, 4), (0, 1, 2, 6), [0, 1, 2, 3], None)
] + [
    (same(function), {"one": one, "other": other})
    for function in (order_distance, order_plan)
    for one, other in (ORDERS, ORDERS[::-1], ORDERS[:1] * 2, (("a",), ("b",)), (["a"], ["a"]), (("a",), ["a"]))
] + [
    (same(function), {"one": one, "other": other})
    for function in (stretch_tree, kept_distance, kept_plan)
    for one in (ROW, MIXED, []) for other in (ROW, MIXED, straight("bdac"), ROW[1:], ())
] + [
    (same(is_stretch), {"one": one, "other": other, "names": names})
    for one, other, names in ((ROW, MIXED, ("a", "b")), (ROW, MIXED, ["a", "b"]), (ROW, (), ("a",)), (ROW, ROW[1:], {}))
] + [
    (same(reversed_row), {"row": row, "first": first, "last": last})
    for row, first, last in ((ROW, 1, 2), (ROW, 2, 1), (ROW, 4, 0), (ROW, [0], {}), ([], 0, 0))
] + [
    (same(Family), {"shape": shape}) for shape in (("x", ("y", "z")), "x", ("x", "x"), ["x", "y"])
] + [
    (same(FAMILY.fill), {"layouts": layouts})
    for layouts in (
        AT_LEAVES, {"x": ONE, "y": ONE, "z": FAR}, {"x": ONE, "y": ONE}, {"x": [], "y": {}, "z": ONE}, [ONE],
    )
] + [
    (same(FAMILY.cost), {"layouts": layouts, "filling": filling})
    for layouts, filling in ((AT_LEAVES, FILLING), (AT_LEAVES, {}), ({}, FILLING), (AT_LEAVES, {**FILLING, "x": ONE}))
] + [
    (same(Journal), {"layout": layout}) for layout in (ONE, None, "a", {"a": 1})
] + [
    (same(Journal), {}), (on_a_journal("undo"), {}), (on_a_journal("redo"), {}), (same(Journal().undo), {}),
] + [
    (on_a_journal("layout_after"), {"moment": moment}) for moment in (0, 2, 3, True, [1])
] + [
    (on_a_journal("do"), {"deed": deed})
    for deed in (("add", "g"), ("add", "a"), ("set", "b a"), ("couple", A1, C0), ("cut", [A0]), ["add", "g"], None)
]


def shown(journal):
    """All that can be seen of a journal, redoing included; it stays as it was."""
    layouts, redone = [journal.layout_after(moment) for moment in range(journal.moment + 1)], 0
    try:
        while True:
            journal.redo()
            redone += 1
            layouts.append(journal.layout)
    except RuntimeError:
        for _ in range(redone):
            journal.undo()
    return layouts + [redone]


def answer_of(make, arguments, order=None):
    """What the callable returns or how it refuses; by position, or by names in this order."""
    thing = make()
    try:
        if order is None:
            found = ("value", thing(*arguments.values()))
        else:
            found = ("value", thing(**{name: arguments[name] for name in order}))
    except (ValueError, LookupError, OverflowError, RuntimeError) as error:
        found = (error.__class__, vars(error))
    journal = getattr(thing, "__self__", None)
    return found + (shown(journal) if isinstance(journal, Journal) else None,)


def spoil(value):
    """Empties all lists and dicts in a value."""
    if isinstance(value, (list, tuple)):
        for part in value:
            spoil(part)
    if isinstance(value, dict):
        spoil(list(value.values()))
    if isinstance(value, (list, dict)):
        value.clear()


class QuestionTest(unittest.TestCase):
    def test_by_name_in_any_order(self):
        for make, arguments in QUESTIONS:
            expected = answer_of(make, arguments)
            for order in itertools.permutations(arguments):
                with self.subTest(make().__name__ if hasattr(make(), "__name__") else "step", order=order):
                    self.assertEqual(answer_of(make, arguments, order), expected)

    def test_refused_with_the_very_value(self):
        for make, arguments in QUESTIONS:
            kind, fields, _ = answer_of(make, arguments)
            if kind != "value" and "value" in fields and isinstance(fields["value"], (list, dict)):
                found = [value for value in arguments.values() if value is fields["value"]]
                deed = arguments.get("deed", ())
                self.assertTrue(found or fields["value"] in deed, (make, arguments))

    def test_equal_questions_get_equal_answers(self):
        answers = []
        for make, arguments in QUESTIONS:
            asked = copy.deepcopy(arguments)
            answer = answer_of(make, asked)
            self.assertEqual(asked, arguments)
            answers.append(copy.deepcopy(answer))
            spoil(answer)
            spoil(list(asked.values()))
        for (make, arguments), expected in list(zip(QUESTIONS, answers))[::-1]:
            self.assertEqual(answer_of(make, copy.deepcopy(arguments)), expected)
        for (make, arguments), expected in zip(QUESTIONS, answers):
            self.assertEqual(answer_of(make, arguments), expected)

    def test_what_was_made_of_spoiled_arguments_stays(self):
        wagons, couplings = ["b", "a"], [(B0, A1)]
        layout = Layout(wagons, couplings)
        layouts = {"x": layout, "y": Layout.read("a / b")}
        cost, filling = Family(("x", "y")).fill(layouts)
        trail = plan(layout, layouts["y"])
        for value in (wagons, couplings, layouts, filling, trail):
            spoil(value)
        self.assertEqual((layout.text(), layout.wagons, layout.free), ("a b", ("a", "b"), (A0, B1)))
        self.assertEqual(Family(("x", "y")).fill({"x": layout, "y": Layout.read("a / b")})[0], cost)

    def test_what_is_returned_is_plain(self):
        for make, arguments in QUESTIONS:
            kind, value, _ = answer_of(make, arguments)
            self.check_plain(value if kind == "value" else None)

    def check_plain(self, value):
        if not value.__class__.__module__.startswith("shuntplan."):
            self.assertIn(value.__class__, (tuple, list, dict, int, str, bool, None.__class__))
        if isinstance(value, (tuple, list)):
            for part in value:
                self.check_plain(part)
        if isinstance(value, dict):
            self.check_plain(list(value.items()))

    def test_every_function_is_asked(self):
        asked = {getattr(make(), "__name__", "step") for make, _ in QUESTIONS}
        listed = {name for names in FUNCTIONS.values() for name in names} | {"Layout", "Family", "Journal", "read"}
        self.assertEqual(listed - asked, {"majority"})
        for order in itertools.permutations((ONE, OTHER, NEAR)):
            self.assertEqual(majority(*order), majority(ONE, OTHER, NEAR))

    def test_what_may_be_left_out(self):
        self.assertEqual(Layout(["b", "a"]), Layout(wagons=["a", "b"], couplings=[]))
        self.assertEqual(Layout(wagons=["b", "a"]), Layout(["a", "b"], ()))
        self.assertEqual((Journal(), Journal(None)), (Journal(Layout([])), Journal(layout=None)))

    def test_a_tuple_in_the_place_of_a_list(self):
        self.assertEqual(Layout(("b", "a"), ((B0, A1),)), Layout(["b", "a"], [(B0, A1)]))
        self.assertEqual(layout_at(("b", "a"), 5), layout_at(["b", "a"], 5))
        self.assertEqual(unpacked(("b", "a"), (5,)), unpacked(["b", "a"], [5]))
        self.assertEqual((is_plan((ONE, NEAR)), is_plan([ONE, NEAR])), (True, True))


class InterfaceTest(unittest.TestCase):
    def parameters_of(self, function):
        return " ".join([name for name in inspect.signature(function).parameters if name not in ("self", "cls")])

    def test_functions(self):
        for module, functions in FUNCTIONS.items():
            held = vars(importlib.import_module("shuntplan." + module))
            for name, parameters in functions.items():
                with self.subTest(name):
                    self.assertTrue(inspect.isfunction(held[name]))
                    self.assertEqual(held[name].__module__, "shuntplan." + module)
                    self.assertEqual(self.parameters_of(held[name]), parameters)

    def test_classes(self):
        for module, classes in CLASSES.items():
            held = vars(importlib.import_module("shuntplan." + module))
            for name, members in classes.items():
                self.assertEqual(held[name].__module__, "shuntplan." + module)
                own = vars(held[name])
                for member, parameters in {**members, "__eq__": "other"}.items():
                    with self.subTest(name, member=member):
                        self.check_member(own[member], parameters)

    def check_member(self, member, parameters):
        if parameters is None:
            self.assertIsInstance(member, property)
            self.assertIsNone(member.fset)
        else:
            plain = member.__func__ if isinstance(member, (classmethod, staticmethod)) else member
            self.assertEqual(self.parameters_of(plain), parameters)


if __name__ == "__main__":
    unittest.main()
