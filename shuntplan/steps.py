"""Steps from one layout to another: couplings and cuts; and stretches of a train turned around or exchanged."""

from shuntplan.errors import AlreadyCoupled, InvalidEnd, InvalidName, NotCoupled, NoWagon, TooLarge
from shuntplan.layouts import Layout, check_layout, check_same_wagons, difference, ends_of
from shuntplan.orders import after_exchange
from shuntplan.stretches import reversed_row
from shuntplan.trains import Line, Ring, is_end, names_of

MOST_FOR_NEIGHBOURS = 8


def check_wagons(layout, names):
    """Raises an error unless these are names of wagons of a Layout."""
    check_layout(layout)
    for name in names:
        if name not in layout.wagons:
            raise NoWagon(name)


def relinked(layout, ends):
    """The layout in which these ends leave their partners; two ends, and two such partners, are coupled."""
    couplings = [coupling for coupling in layout.couplings if not any([end in coupling for end in ends])]
    partners = [layout[end] for end in ends if layout[end] is not None]
    for pair in (ends, tuple(partners)):
        if len(pair) == 2:
            couplings.append(pair)
    return Layout(layout.wagons, couplings)


# Inheriting a method of the interface is not enough (LANGUAGE.md, L5), so Couple and Cut repeat the short ones.
class Step:
    """What couplings and cuts have in common: they are made at one or two ends."""

    def __init__(self, ends):
        for end in ends:
            if not is_end(end):
                raise InvalidEnd(end)
        self._ends = tuple(sorted(ends))

    @property
    def ends(self):
        """The ends, ascending."""
        return self._ends

    def __call__(self, layout):
        """The layout after the step; Couple and Cut also refuse what leads nowhere."""
        check_wagons(layout, names_of(self._ends))
        return relinked(layout, self._ends)

    def __eq__(self, other):
        return isinstance(other, Step) and self._ends == other._ends


class Couple(Step):
    """The coupling of two ends that are not partners."""

    def __init__(self, one, other):
        super().__init__((one, other))
        if one == other:
            raise InvalidEnd(other)

    @property
    def ends(self):
        """The two ends, ascending."""
        return self._ends

    def __call__(self, layout):
        """The layout after the coupling, in which partners that both ends had are partners of each other."""
        check_wagons(layout, names_of(self._ends))
        one, other = self._ends
        if layout[one] == other:
            raise AlreadyCoupled(one)
        return relinked(layout, self._ends)

    def __eq__(self, other):
        return isinstance(other, Couple) and self._ends == other._ends


class Cut(Step):
    """The cut at an end that has a partner."""

    def __init__(self, end):
        super().__init__((end,))

    @property
    def ends(self):
        """The tuple of the one end."""
        return self._ends

    def __call__(self, layout):
        """The layout after the cut, in which the end and its partner are free."""
        check_wagons(layout, names_of(self._ends))
        end = self._ends[0]
        if layout[end] is None:
            raise NotCoupled(end)
        return relinked(layout, self._ends)

    def __eq__(self, other):
        return isinstance(other, Cut) and self._ends == other._ends


def steps_from(layout):
    """The list of all Steps that can be done."""
    ends = ends_of(layout.wagons)
    couples = [Couple(one, other) for one in ends for other in ends if one < other and layout[one] != other]
    cuts = [Cut(end) for end, _ in layout.couplings]
    return couples + cuts


# Two layouts compare by the first end in which they differ, as their numbers do, and () is less than each end.
def partners_in(layout):
    """The list of the partners of all ends, () for a free one."""
    return [() if layout[end] is None else layout[end] for end in ends_of(layout.wagons)]


def neighbours(layout):
    """The list of all different layouts that one step leads to, by their numbers."""
    check_layout(layout)
    if len(layout.wagons) > MOST_FOR_NEIGHBOURS:
        raise TooLarge(MOST_FOR_NEIGHBOURS)
    found = {}
    for step in steps_from(layout):
        after = step(layout)
        found[after.couplings] = after
    return sorted(found.values(), key=partners_in)


def step_towards(one, other):
    """A Step from one layout towards a different one: makes a coupling, or cuts if none is to be made."""
    made = difference(other, one).couplings
    if made == ():
        return Cut(difference(one, other).couplings[0][0])
    end, partner = made[0]
    return Couple(end, partner)


def are_neighbours(one, other):
    """Whether one step leads from one layout to the other."""
    check_same_wagons(one, other)
    if one == other:
        return False
    # A coupling makes at most two new couplings, and coupling the ends of either makes the other one too.
    step = step_towards(one, other)
    return step(one) == other


def train_of(layout, name):
    """The train with this wagon."""
    trains = [train for train in layout.trains() if name in train]
    return trains[0]


def stand_in_order(train, first, last):
    """Whether the last wagon is a wagon of the train too, and not before the first one, in the normal form."""
    names = names_of(train.row)
    return last in names and names.index(first) <= names.index(last)


def with_row(layout, train, row):
    """The layout in which a train has this row instead of its own."""
    changed = Ring(row) if isinstance(train, Ring) else Line(row)
    trains = [changed if other == train else other for other in layout.trains()]
    return Layout.of(*trains)


def reversed_stretch(layout, first, last):
    """The layout in which the wagons from the first to the last name are turned around within their train."""
    check_wagons(layout, (first, last))
    train = train_of(layout, first)
    if not stand_in_order(train, first, last):
        raise InvalidName(last)
    names = names_of(train.row)
    return with_row(layout, train, reversed_row(train.row, names.index(first), names.index(last)))


def exchanged(layout, first, last, third, fourth):
    """The layout in which the stretches from first to last and from third to fourth change places."""
    check_wagons(layout, (first, last, third, fourth))
    train = train_of(layout, first)
    if not stand_in_order(train, first, last):
        raise InvalidName(last)
    if not stand_in_order(train_of(layout, third), third, fourth):
        raise InvalidName(fourth)
    if last == third or not stand_in_order(train, last, third):
        raise InvalidName(third)
    names = names_of(train.row)
    exchange = (names.index(first), names.index(last) + 1, names.index(third), names.index(fourth) + 1)
    return with_row(layout, train, after_exchange(train.row, exchange))
