"""The section on journals; promises 14 to 17 of the stage about orders, and the examples of that section."""

import unittest

from shuntplan.errors import (
    AlreadyCoupled, InvalidDeed, InvalidEnd, InvalidLayout, InvalidName, InvalidNumber, Missing, NothingToRedo,
    NothingToUndo, NotCoupled, NoWagon, ParseError, TooLarge, Twice,
)
from shuntplan.journal import Journal
from shuntplan.layouts import Layout
from shuntplan.steps import Cut
from tests.samples import ANY_VALUES, NAMES, SMALL, Case, Dice, coupled_by_hand, cut_by_hand, ends_of, scattered

A0, A1, B0, B1, C0, C1 = ends_of("abc")
NO_LAYOUTS = [value for value in ANY_VALUES if value is not None] + ["a b", [Layout([])], Journal(), Layout]
NO_NAMES = [value for value in ANY_VALUES if value != "a"] + ["a\n", "abcdefghi", ("a",), ["a"], "a1", "-a"]
NO_ENDS = ANY_VALUES + [("a",), ("a", 2), ("a", True), ["a", 0], ("A", 0), ("a", 0, 0), (0, "a"), "a0"]

# Values that are no deeds, other than those among ANY_VALUES.
NO_DEEDS = ANY_VALUES + [
    ("add",), ("add", "a", "b"), ("add", "a", None), ["add", "a"], "add", ("Add", "a"), ("add ", "a"), ("", "a"),
    ("remove",), ("remove", "a", "a"), ("couple",), ("couple", A0), ("couple", A0, A1, A0), ("couple", (A0, A1)),
    ("cut",), ("cut", A0, A1), ("set",), ("set", "a", "b"), ["set", "a"], ("set", "a", None), ("read", "a"),
    ("undo",), ("redo",), ("batch", ("add", "a")), (None, "a"), (["add"], "a"), (("add", "a"),), ({}, "a"), (1, "a"),
    (True, "a"), {"add": "a"}, (("add",), "a"), ("a", "add"), [("add", "a")], ("add", "a", "b", "c", "d"),
]


def couplings_of(text):
    return Layout.read(text).couplings


def done_by_hand(layout, deed):
    """The layout after a deed that can be done, by the words of the document."""
    word, *parts = deed
    if word == "add":
        return Layout(list(layout.wagons) + parts, layout.couplings)
    if word == "remove":
        return Layout([name for name in layout.wagons if name != parts[0]], layout.couplings)
    if word == "set":
        return Layout.read(parts[0])
    return Layout(layout.wagons, coupled_by_hand(layout, *parts) if word == "couple" else cut_by_hand(layout, *parts))


def is_refused(layout, deed):
    """Whether a deed of right words, names, ends and texts cannot be done."""
    word, *parts = deed
    if word == "couple" and len(parts) != 2:
        return True
    if word == "add":
        return parts[0] in layout.wagons or len(layout.wagons) == 30
    if word == "remove":
        return parts[0] not in layout.wagons or (parts[0], 0) not in layout.free or (parts[0], 1) not in layout.free
    if word == "set":
        return False
    if not all([name in layout.wagons for name, _ in parts]):
        return True
    return layout[parts[0]] is None if word == "cut" else layout[parts[0]] == parts[1]


def chance_deed(dice, names):
    """Any deed with these names; it may be one that cannot be done, or a coupling that lacks an end."""
    word = dice.one_of(("add", "add", "remove", "couple", "couple", "couple", "cut", "set"))
    if word in ("add", "remove"):
        return (word, dice.one_of(names))
    if word == "set":
        return (word, dice.one_of(("", "a", "b a", "(c) / -b a", "(b -a c)", "e / d / c", "-c -b -a / (e d)")))
    one, other = dice.one_of(ends_of(names)), dice.one_of(ends_of(names))
    return (word, one) if word == "cut" or one == other else (word, one, other)


class ExampleTest(Case):
    def test_examples(self):
        yard = Journal()
        self.assertIsNone(yard.batch(("add", "a"), ("add", "b"), ("couple", ("a", 1), ("b", 0))))
        self.assertEqual(yard.layout.text(), "a b")
        self.assert_refused(InvalidDeed, {"index": 1}, yard.batch, ("cut", ("a", 1)), ("cut", ("a", 1)))
        self.assertIsNone(yard.undo())
        self.assertEqual(len(yard), 0)


class MadeTest(Case):
    """Promise 14."""

    def test_without_wagons(self):
        for journal in (Journal(), Journal(None), Journal(layout=None)):
            self.assertEqual((journal.layout, journal.moment, len(journal)), (Layout([]), 0, 0))
            self.assertEqual(journal.layout_after(0), Layout([]))

    def test_with_a_layout(self):
        for layout in SMALL[0] + SMALL[2] + [scattered(NAMES[:30], 1, 4)]:
            for journal in (Journal(layout), Journal(layout=layout)):
                self.assertEqual((journal.layout, journal.moment, len(journal)), (layout, 0, len(layout.wagons)))
                self.assertIs(journal.layout.__class__, Layout)
                self.assertEqual((journal.moment.__class__, len(journal).__class__), (int, int))

    def test_no_layout(self):
        for value in NO_LAYOUTS:
            with self.subTest(value=value):
                with self.assertRaises(InvalidLayout) as caught:
                    Journal(value)
                self.assertIs(caught.exception.value, value)
                with self.assertRaises(InvalidLayout) as caught:
                    Journal(layout=value)
                self.assertIs(caught.exception.value, value)

    def test_properties_are_not_set(self):
        for name in ("layout", "moment"):
            with self.assertRaises(AttributeError):
                setattr(Journal(), name, 1)


class DoTest(Case):
    """Promise 14."""

    def assert_done(self, before, deed, after):
        journal = Journal(Layout.read(before))
        self.assertIsNone(journal.do(deed))
        self.assertEqual((journal.layout.text(), journal.moment), (after, 1))
        self.assertEqual(len(journal), len(Layout.read(after).wagons))
        self.assertEqual(journal.layout_after(0), Layout.read(before))
        again = Journal(Layout.read(before))
        self.assertIsNone(again.do(deed=deed))
        self.assertEqual(again.layout, journal.layout)

    def test_each_deed(self):
        for before, deed, after in [
            ("", ("add", "a"), "a"), ("b", ("add", "a"), "a / b"), ("(b a)", ("add", "abcdefgh"), "(a b) / abcdefgh"),
            ("a", ("remove", "a"), ""), ("a / (b) / c", ("remove", "c"), "a / (b)"),
            ("b c / a", ("remove", "a"), "b c"), ("a b", ("couple", A0, B1), "(a b)"),
            ("a b / c", ("couple", B1, C1), "a b -c"), ("a", ("couple", A1, A0), "(a)"),
            ("a b c", ("couple", C0, A1), "a c / (b)"), ("a b", ("cut", A1), "a / b"), ("(a)", ("cut", A0), "a"),
            ("(a b c)", ("cut", B0), "-a -c -b"), ("a b", ("set", "c"), "c"), ("a b", ("set", ""), ""),
            ("", ("set", "c / -b -a"), "a b / c"), ("a", ("set", "(c -b) / (-a) / d"), "(a) / (b -c) / d"),
            ("", ("set", "(b a) / d c"), "(a b) / -c -d"), ("a", ("set", "a"), "a"),
        ]:
            with self.subTest(before=before, deed=deed):
                self.assert_done(before, deed, after)

    def test_texts_of_all_small_layouts_in_any_reading(self):
        journal = Journal()
        for layout in SMALL[3]:
            trains = []
            for train in layout.text().split(" / ")[::-1]:
                inner = train[1:-1] if train.startswith("(") else train
                turned = [word[1:] if word.startswith("-") else "-" + word for word in inner.split(" ")[::-1]]
                trains.append("(" + " ".join(turned) + ")" if train.startswith("(") else " ".join(turned))
            journal.do(("set", " / ".join(trains)))
            self.assertEqual(journal.layout, layout)
        self.assertEqual(journal.moment, 76)

    def test_steps_as_the_document_has_them(self):
        for layout in SMALL[2] + [scattered(NAMES[:30], 2, 6)]:
            ends = ends_of(layout.wagons)[:9]
            for one in ends:
                for deed in [("cut", one)] + [("couple", one, other) for other in ends if other != one]:
                    if not is_refused(layout, deed):
                        journal = Journal(layout)
                        journal.do(deed)
                        self.assertEqual(journal.layout, done_by_hand(layout, deed))

    def test_thirty_wagons(self):
        journal = Journal()
        for count, name in enumerate(NAMES[:30]):
            self.assertEqual(len(journal), count)
            journal.do(("add", name))
        self.assert_unchanged(journal, TooLarge, {"limit": 30}, ("add", NAMES[30]))
        self.assert_unchanged(journal, Twice, {"name": NAMES[3]}, ("add", NAMES[3]))
        journal.do(("remove", NAMES[3]))
        self.assertEqual(len(journal), 29)
        journal.do(("add", NAMES[30]))
        self.assertEqual(journal.moment, 32)

    def assert_unchanged(self, journal, error, fields, deed):
        """The deed is refused, and neither the journal nor what can be redone has changed."""
        before = [journal.layout_after(moment) for moment in range(journal.moment + 1)]
        journal.do(("set", "(z)"))
        journal.undo()
        with self.assertRaises(error) as caught:
            journal.do(deed)
        self.assertIs(caught.exception.__class__, error)
        self.assertEqual(vars(caught.exception), fields)
        for field, value in fields.items():
            if value in deed:
                self.assertIs(getattr(caught.exception, field), deed[deed.index(value)])
        self.assertEqual([journal.layout_after(moment) for moment in range(journal.moment + 1)], before)
        journal.redo()
        self.assertEqual(journal.layout.text(), "(z)")
        self.assertRaises(NothingToRedo, journal.redo)
        journal.undo()

    def test_no_deed(self):
        for journal in (Journal(), Journal(Layout.read("a b"))):
            for value in NO_DEEDS:
                with self.subTest(value=value):
                    self.assert_unchanged_by(journal, value)

    def assert_unchanged_by(self, journal, value):
        before = (journal.layout, journal.moment)
        with self.assertRaises(InvalidDeed) as caught:
            journal.do(value)
        self.assertEqual(vars(caught.exception), {"index": 0})
        self.assertIs(caught.exception.index.__class__, int)
        self.assertEqual((journal.layout, journal.moment), before)

    def test_no_name(self):
        for layout in (Layout([]), Layout.read("a b"), Layout(NAMES[:30])):
            for value in NO_NAMES:
                for word in ("add", "remove"):
                    with self.subTest(word, value=value):
                        self.assert_unchanged(Journal(layout), InvalidName, {"value": value}, (word, value))

    def test_wagons_that_are_there_or_not(self):
        journal = Journal(Layout.read("a b / c / (d)"))
        for name in "abcd":
            self.assert_unchanged(journal, Twice, {"name": name}, ("add", name))
        for name in ("e", "ab", "abcdefgh"):
            self.assert_unchanged(journal, Missing, {"name": name}, ("remove", name))
        self.assert_unchanged(Journal(), Missing, {"name": "a"}, ("remove", "a"))

    def test_the_least_end_that_has_a_partner(self):
        for text, name, side in [
            ("a b", "a", 1), ("a b", "b", 0), ("b a", "b", 1), ("a b c", "b", 0), ("(a)", "a", 0), ("a -b", "b", 1),
            ("(a b)", "b", 0),
        ]:
            self.assert_unchanged(Journal(Layout.read(text)), AlreadyCoupled, {"end": (name, side)}, ("remove", name))

    def test_no_ends(self):
        journal = Journal(Layout.read("a b"))
        for value in NO_ENDS:
            with self.subTest(value=value):
                for deed in [("cut", value), ("couple", value, A0), ("couple", A0, value), ("couple", value, None)]:
                    self.assert_unchanged(journal, InvalidEnd, {"value": value}, deed)
        self.assert_unchanged(journal, InvalidEnd, {"value": A0}, ("couple", A0, A0))

    def test_steps_that_are_refused(self):
        journal = Journal(Layout.read("a b / d"))
        for error, fields, deed in [
            (NoWagon, {"name": "c"}, ("cut", C0)), (NoWagon, {"name": "c"}, ("couple", C1, A0)),
            (NoWagon, {"name": "c"}, ("couple", ("e", 0), C0)), (AlreadyCoupled, {"end": A1}, ("couple", A1, B0)),
            (AlreadyCoupled, {"end": A1}, ("couple", B0, A1)), (NotCoupled, {"end": A0}, ("cut", A0)),
            (NotCoupled, {"end": ("d", 1)}, ("cut", ("d", 1))),
        ]:
            self.assert_unchanged(journal, error, fields, deed)

    def test_texts_that_are_not_read(self):
        journal = Journal(Layout.read("a b"))
        for text, offset in [
            ("a b a", 5), (" ", 0), ("a ", 2), ("A", 0), ("(a", 2), ("a  b", 2), ("a /b", 3), ("a\n", 1),
            ("abcdefghi", 8), (" ".join(NAMES[:31]), len(" ".join(NAMES[:30]))), (None, 0), (5, 0), (["a"], 0),
            (("a",), 0), ({}, 0),
        ]:
            with self.subTest(text=text):
                self.assert_unchanged(journal, ParseError, {"offset": offset}, ("set", text))


class BatchTest(Case):
    """Promise 15."""

    DEEDS = [("set", "a b c"), ("couple", B1, A0), ("add", "d"), ("remove", "c"), ("cut", A0)]

    def test_as_one(self):
        for count in range(len(self.DEEDS) + 1):
            journal, single = Journal(Layout.read("a")), Journal(Layout.read("a"))
            self.assertIsNone(journal.batch(*self.DEEDS[:count]))
            for deed in self.DEEDS[:count]:
                single.do(deed)
            self.assertEqual((journal.layout, journal.moment, single.moment), (single.layout, 1, count))
            journal.undo()
            self.assertEqual((journal.layout, journal.moment), (Layout.read("a"), 0))
            journal.redo()
            self.assertEqual((journal.layout, journal.moment), (single.layout, 1))

    def test_without_deeds(self):
        journal = Journal(Layout.read("a"))
        journal.do(("add", "b"))
        journal.undo()
        journal.batch()
        self.assertEqual((journal.layout.text(), journal.moment), ("a", 1))
        self.assertRaises(NothingToRedo, journal.redo)
        journal.undo()
        self.assertRaises(NothingToUndo, journal.undo)
        self.assertEqual(journal.trial(), Layout.read("a"))

    def test_trial_changes_nothing(self):
        journal = Journal(Layout.read("a"))
        journal.do(("add", "b"))
        journal.do(("add", "c"))
        journal.undo()
        for count in range(len(self.DEEDS) + 1):
            expected = Journal(journal.layout)
            expected.batch(*self.DEEDS[:count])
            found = journal.trial(*self.DEEDS[:count])
            self.assertEqual(found, expected.layout)
            self.assertIs(found.__class__, Layout)
            self.assertEqual(journal.trial(*self.DEEDS[:count]), found)
            self.assertEqual((journal.layout.text(), journal.moment), ("a / b", 1))
        journal.redo()
        self.assertEqual((journal.layout.text(), journal.moment), ("a / b / c", 2))

    def assert_refused_at(self, journal, index, *deeds):
        texts = [journal.layout_after(moment).text() for moment in range(journal.moment + 1)]
        for call in (journal.batch, journal.trial):
            with self.assertRaises(InvalidDeed) as caught:
                call(*deeds)
            self.assertIs(caught.exception.__class__, InvalidDeed)
            self.assertEqual(vars(caught.exception), {"index": index})
            self.assertIs(caught.exception.index.__class__, int)
            found = [journal.layout_after(moment).text() for moment in range(journal.moment + 1)]
            self.assertEqual(found, texts)

    def test_the_first_deed_that_is_refused(self):
        wrong = [
            ("add", "a"), ("add", "A"), ("add", []), ("remove", "z"), ("remove", "a"), ("remove", None), ("cut", C0),
            ("cut", ("z", 0)), ("cut", 5), ("couple", A1, B0), ("couple", A1, A1), ("couple", A1, None),
            ("couple", A1, ("z", 0)), ("set", "a a"), ("set", None), ("set", "("), ("do", "a"), (), None, [], "add",
            ("add", "x", "y"), 0, True, {},
        ]
        good = [("add", "x"), ("remove", "x"), ("couple", A0, B1), ("cut", B1), ("add", "y"), ("remove", "y")]
        journal = Journal(Layout.read("a b / c"))
        for deed in wrong:
            for index in range(len(good) + 1):
                with self.subTest(deed=deed, index=index):
                    self.assert_refused_at(journal, index, *good[:index], deed, *good[index:])
                    self.assert_refused_at(journal, index, *good[:index], deed, None, deed)

    def test_a_deed_that_only_an_earlier_one_makes_wrong(self):
        journal = Journal(Layout.read("a b"))
        self.assert_refused_at(journal, 1, ("cut", A1), ("cut", B0))
        self.assert_refused_at(journal, 1, ("add", "c"), ("add", "c"))
        self.assert_refused_at(journal, 2, ("set", ""), ("add", "a"), ("cut", A1))
        full = Journal(Layout(NAMES[:29]))
        self.assert_refused_at(full, 1, ("add", NAMES[30]), ("add", NAMES[31]))

    def test_a_refused_batch_leaves_what_can_be_redone(self):
        journal = Journal()
        journal.do(("add", "a"))
        journal.undo()
        self.assert_refused_at(journal, 1, ("add", "b"), None)
        journal.redo()
        self.assertEqual(journal.layout.text(), "a")


class UndoTest(Case):
    """Promises 16 and 17."""

    def test_nothing_to_undo_or_redo(self):
        for journal in (Journal(), Journal(Layout.read("a b"))):
            self.assert_refused_by(journal, NothingToUndo, journal.undo)
            self.assert_refused_by(journal, NothingToRedo, journal.redo)
            journal.do(("add", "c"))
            self.assert_refused_by(journal, NothingToRedo, journal.redo)
            journal.undo()
            self.assert_refused_by(journal, NothingToUndo, journal.undo)
            journal.redo()
            self.assert_refused_by(journal, NothingToRedo, journal.redo)

    def assert_refused_by(self, journal, error, call):
        before = (journal.layout, journal.moment)
        with self.assertRaises(error) as caught:
            call()
        self.assertIs(caught.exception.__class__, error)
        self.assertEqual(vars(caught.exception), {})
        self.assertEqual((journal.layout, journal.moment), before)

    def test_back_and_forth(self):
        journal = Journal()
        for text in ("a", "b", "c"):
            journal.do(("set", text))
        texts = []
        for call in (journal.undo, journal.undo, journal.redo, journal.undo, journal.undo, journal.redo):
            self.assertIsNone(call())
            texts.append(journal.layout.text())
        self.assertEqual(texts, ["b", "a", "b", "a", "", "a"])
        self.assertRaises(InvalidDeed, journal.do, ("add",))
        self.assertRaises(Twice, journal.do, ("add", "a"))
        journal.redo()
        journal.redo()
        self.assertEqual((journal.layout.text(), journal.moment), ("c", 3))
        journal.undo()
        journal.do(("set", "d"))
        self.assert_refused_by(journal, NothingToRedo, journal.redo)
        self.assertEqual([journal.layout_after(moment).text() for moment in range(4)], ["", "a", "b", "d"])

    def test_long_histories(self):
        for seed in range(40):
            start = Layout.read("a b / (c)") if seed % 2 else None
            self.check_history(Dice(seed), Journal(start), [start or Layout([])])

    def check_history(self, dice, journal, stand):
        """Things done by chance, each compared with a list of layouts that stand and one of those undone."""
        undone = []
        for _ in range(60):
            choice = dice.below(8)
            if choice == 0:
                self.check_batch(dice, journal, stand, undone)
            elif choice < 3:
                self.check_move(journal.undo, NothingToUndo, stand, undone, 1)
            elif choice == 3:
                self.check_move(journal.redo, NothingToRedo, undone, stand, 0)
            else:
                self.check_deed(journal, stand, undone, chance_deed(dice, list("abcde")))
            self.assertEqual((journal.layout, journal.moment), (stand[-1], len(stand) - 1))
            self.assertEqual(len(journal), len(stand[-1].wagons))
            self.assertEqual([journal.layout_after(moment) for moment in range(len(stand))], stand)

    def check_batch(self, dice, journal, stand, undone):
        deeds = [chance_deed(dice, list("abcde")) for _ in range(dice.below(4))]
        layout = stand[-1]
        for index, deed in enumerate(deeds):
            if is_refused(layout, deed):
                self.assertRaises(InvalidDeed, journal.trial, *deeds)
                self.assert_refused(InvalidDeed, {"index": index}, journal.batch, *deeds)
                return
            layout = done_by_hand(layout, deed)
        self.assertEqual(journal.trial(*deeds), layout)
        self.assertIsNone(journal.batch(*deeds))
        stand.append(layout)
        undone.clear()

    def check_move(self, call, error, source, target, rest):
        if len(source) == rest:
            self.assertRaises(error, call)
        else:
            self.assertIsNone(call())
            target.append(source.pop())

    def check_deed(self, journal, stand, undone, deed):
        if is_refused(stand[-1], deed):
            with self.assertRaises((ValueError, LookupError, RuntimeError)):
                journal.do(deed)
        else:
            self.assertIsNone(journal.do(deed))
            stand.append(done_by_hand(stand[-1], deed))
            undone.clear()

    def test_no_moment(self):
        journal = Journal()
        for text in ("a", "b"):
            journal.do(("set", text))
        journal.batch(("add", "c"), ("add", "d"))
        journal.undo()
        self.assertEqual([journal.layout_after(moment=moment).text() for moment in (0, 1, 2)], ["", "a", "b"])
        wrong = [value for value in ANY_VALUES if value.__class__ is not int or not 0 <= value < 3]
        for value in wrong + [3, 4, -1, -2, "0", (0,), True, False]:
            with self.subTest(value=value):
                self.assert_refused(InvalidNumber, {"value": value}, journal.layout_after, value)
                self.assert_refused(InvalidNumber, {"value": value}, journal.layout_after, moment=value)
        journal.redo()
        self.assertEqual(journal.layout_after(3).text(), "b / c / d")


class EqualTest(Case):
    """Promise 17."""

    def test_equal_exactly_with_equal_layouts(self):
        journals = []
        for text in ("", "a", "b", "a b", "a / b", "(a b)"):
            by_deeds = Journal(Layout.read("z"))
            by_deeds.do(("set", ""))
            by_deeds.batch(("add", "x"), ("set", text))
            by_undoing = Journal(Layout.read(text))
            by_undoing.do(("set", "q"))
            by_undoing.undo()
            journals += [(text, Journal(Layout.read(text))), (text, by_deeds), (text, by_undoing)]
        for text, journal in journals:
            for other_text, other in journals:
                self.assertIs(journal == other, text == other_text)
                self.assertIs(journal != other, text != other_text)

    def test_equal_to_no_other_value(self):
        for layout in (Layout([]), Layout.read("a b")):
            journal = Journal(layout)
            for value in ANY_VALUES + [layout, layout.text(), layout.wagons, [layout], Cut(A0), Journal]:
                self.assertIs(journal == value, False)
                self.assertIs(value == journal, False)
                self.assertIs(journal != value, True)

    def test_journals_do_not_share_what_is_done(self):
        layout = Layout.read("a b")
        one, other = Journal(layout), Journal(layout)
        third, fourth = Journal(), Journal()
        one.do(("cut", A1))
        third.do(("add", "a"))
        self.assertEqual((other.layout, other.moment, fourth.layout, fourth.moment), (layout, 0, Layout([]), 0))
        fifth = Journal(one.layout)
        one.undo()
        one.batch(("set", ""))
        self.assertEqual((fifth.layout.text(), fifth.moment, layout.text()), ("a / b", 0, "a b"))
        self.assertRaises(NothingToUndo, fifth.undo)
        self.assertRaises(NothingToRedo, other.redo)

    def test_a_layout_that_was_read_stays(self):
        journal = Journal(Layout.read("a b"))
        before = journal.layout
        journal.do(("cut", A1))
        after = journal.layout
        journal.undo()
        self.assertEqual((before.text(), after.text(), journal.layout.text()), ("a b", "a / b", "a b"))


if __name__ == "__main__":
    unittest.main()
