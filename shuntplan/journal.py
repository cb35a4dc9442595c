"""Journals: a layout, the deeds that led to it, and how they are undone and redone."""

from shuntplan.errors import (
    AlreadyCoupled, InvalidDeed, InvalidEnd, InvalidName, InvalidNumber, Missing, NothingToRedo, NothingToUndo,
    NotCoupled, NoWagon, ParseError, TooLarge, Twice,
)
from shuntplan.layouts import Layout, check_layout
from shuntplan.steps import Couple, Cut
from shuntplan.trains import MOST_WAGONS, is_name, is_number_below


def check_name(value):
    """Raises InvalidName unless the value is a name."""
    if not is_name(value):
        raise InvalidName(value)


def with_wagon(layout, name):
    """The layout with one wagon more, whose ends are free."""
    check_name(name)
    if name in layout.wagons:
        raise Twice(name)
    if len(layout.wagons) == MOST_WAGONS:
        raise TooLarge(MOST_WAGONS)
    return Layout(layout.wagons + (name,), layout.couplings)


def without_wagon(layout, name):
    """The layout without a wagon whose ends are free."""
    check_name(name)
    if name not in layout.wagons:
        raise Missing(name)
    for end in ((name, 0), (name, 1)):
        if layout[end] is not None:
            raise AlreadyCoupled(end)
    return Layout([wagon for wagon in layout.wagons if wagon != name], layout.couplings)


def with_coupling(layout, one, other):
    """The layout after the coupling of two ends."""
    step = Couple(one, other)
    return step(layout)


def after_cut(layout, end):
    """The layout after the cut at an end."""
    step = Cut(end)
    return step(layout)


def from_text(_, text):
    """The layout with this text, whatever the layout was."""
    return Layout.read(text)


ACTIONS = {
    "add": with_wagon,
    "remove": without_wagon,
    "couple": with_coupling,
    "cut": after_cut,
    "set": from_text,
}

# The number of parts of a deed, its word included.
LENGTHS = {"add": 2, "remove": 2, "couple": 3, "cut": 2, "set": 2}


def is_deed(value):
    """Whether any value is a tuple of a word for a deed and as many parts as it needs."""
    if not isinstance(value, tuple) or value == () or not isinstance(value[0], str):
        return False
    return LENGTHS.get(value[0]) == len(value)


def after_deed(layout, deed):
    """The layout after a deed."""
    if not is_deed(deed):
        raise InvalidDeed(0)
    action = ACTIONS[deed[0]]
    parts = deed[1:]
    return action(layout, *parts)


def after_deeds(layout, deeds):
    """The layout after several deeds; InvalidDeed with the index of the first that cannot be done."""
    for index, deed in enumerate(deeds):
        try:
            layout = after_deed(layout, deed)
        except (
            AlreadyCoupled, InvalidDeed, InvalidEnd, InvalidName, Missing, NotCoupled, NoWagon, ParseError, TooLarge,
            Twice,
        ):
            raise InvalidDeed(index)
    return layout


class Journal:
    """A layout and the deeds and batches that led to it."""

    def __init__(self, layout=None):
        if layout is None:
            layout = Layout([])
        check_layout(layout)
        # The layouts after each number of deeds and batches that stand, and those undone, the latest of these first.
        self._layouts = [layout]
        self._undone = []

    @property
    def layout(self):
        """The layout now."""
        return self._layouts[-1]

    @property
    def moment(self):
        """The number of deeds and batches that stand."""
        return len(self._layouts) - 1

    def layout_after(self, moment):
        """The layout after so many of the deeds and batches that stand."""
        if not is_number_below(moment, len(self._layouts)):
            raise InvalidNumber(moment)
        return self._layouts[moment]

    def do(self, deed):
        """Does one deed."""
        self._go_on(after_deed(self._layouts[-1], deed))

    def batch(self, *deeds):
        """Does all deeds as one that is undone at once, or none of them."""
        self._go_on(after_deeds(self._layouts[-1], deeds))

    def trial(self, *deeds):
        """The layout after the deeds, without doing them."""
        return after_deeds(self._layouts[-1], deeds)

    def undo(self):
        """Takes back the last deed or batch that stands."""
        if len(self._layouts) == 1:
            raise NothingToUndo()
        self._undone.append(self._layouts.pop())

    def redo(self):
        """Does again what was taken back last."""
        if self._undone == []:
            raise NothingToRedo()
        self._layouts.append(self._undone.pop())

    def __eq__(self, other):
        return isinstance(other, Journal) and self._layouts[-1] == other._layouts[-1]

    def __len__(self):
        return len(self._layouts[-1].wagons)

    def _go_on(self, layout):
        """Adds the layout after a deed or batch, behind which nothing is left to be redone."""
        self._layouts.append(layout)
        self._undone.clear()
