"""Layouts: wagons and the couplings of their ends."""

from shuntplan.errors import InvalidCoupling, InvalidEnd, InvalidLayout, NoWagon, OtherWagons, TooLarge
from shuntplan.reading import trains_read
from shuntplan.trains import MOST_WAGONS, Line, Ring, Train, directed_by, is_end, is_name, names_of, opposite


def is_name_list(value):
    """Whether any value is a list of different names."""
    if not isinstance(value, (list, tuple)) or not all([is_name(name) for name in value]):
        return False
    return len(set(value)) == len(value)


def ends_of(wagons):
    """The list of all ends of these wagons, in the order of the names."""
    return [(name, side) for name in wagons for side in (0, 1)]


def is_end_pair(value):
    """Whether any value is a tuple of two ends."""
    return isinstance(value, tuple) and len(value) == 2 and is_end(value[0]) and is_end(value[1])


def can_be_added(value, wagons, partners):
    """Whether any value is a coupling of these wagons whose ends have no partners yet."""
    if not is_end_pair(value) or value[0] == value[1]:
        return False
    return all([end[0] in wagons and end not in partners for end in value])


def partners_by(couplings, wagons):
    """The dict from each end in a coupling to its partner."""
    if not isinstance(couplings, (list, tuple)):
        raise InvalidCoupling(couplings)
    partners = {}
    for coupling in couplings:
        if not can_be_added(coupling, wagons, partners):
            raise InvalidCoupling(coupling)
        one, other = coupling
        partners[one] = other
        partners[other] = one
    return partners


def row_from(entry, partners):
    """The row that one walks along from this end, until a free end or the beginning comes."""
    row = [directed_by(entry)]
    end = partners.get(opposite(entry))
    while end is not None and end != entry:
        row.append(directed_by(end))
        end = partners.get(opposite(end))
    return tuple(row)


def train_with(name, partners):
    """The Train of a wagon."""
    entry = (name, 0)
    while entry in partners:
        entry = opposite(partners[entry])
        if entry == (name, 0):
            return Ring(row_from(entry, partners))
    return Line(row_from(entry, partners))


class Layout:
    """Wagons and couplings in which no end occurs twice."""

    def __init__(self, wagons, couplings=()):
        if not is_name_list(wagons) or len(wagons) > MOST_WAGONS:
            raise InvalidLayout(wagons)
        partners = partners_by(couplings, wagons)
        self._wagons = tuple(sorted(wagons))
        ends = ends_of(self._wagons)
        self._couplings = tuple([(end, partners[end]) for end in ends if end in partners and end < partners[end]])
        self._free = tuple([end for end in ends if end not in partners])
        self._partners = partners

    @classmethod
    def of(cls, *trains):
        """The layout of these Trains."""
        wagons = []
        couplings = []
        for train in trains:
            if not isinstance(train, Train) or any([name in train for name in wagons]):
                raise InvalidLayout(train)
            wagons.extend(names_of(train.row))
            couplings.extend(train.links())
        if len(wagons) > MOST_WAGONS:
            raise TooLarge(MOST_WAGONS)
        return cls(wagons, couplings)

    @classmethod
    def read(cls, text):
        """The layout with this text, whichever way its trains are read and ordered."""
        parts = trains_read(text)
        return cls.of(*parts)

    @property
    def wagons(self):
        """The names, ascending."""
        return self._wagons

    @property
    def couplings(self):
        """The couplings, ascending."""
        return self._couplings

    @property
    def free(self):
        """The ends without a partner, ascending."""
        return self._free

    def trains(self):
        """Yields the Trains in the order of their least wagons."""
        seen = []
        for name in self._wagons:
            if name not in seen:
                train = train_with(name, self._partners)
                seen.extend(names_of(train.row))
                yield train

    def text(self):
        """The texts of the trains in order."""
        return " / ".join([train.text() for train in self.trains()])

    def __len__(self):
        return len(self._couplings)

    def __eq__(self, other):
        return isinstance(other, Layout) and self._wagons == other._wagons and self._couplings == other._couplings

    def __getitem__(self, end):
        if not is_end(end):
            raise InvalidEnd(end)
        if end[0] not in self._wagons:
            raise NoWagon(end[0])
        return self._partners.get(end)

    def __contains__(self, coupling):
        return is_end_pair(coupling) and self._partners.get(coupling[0]) == coupling[1]

    # Without this, Python would try to iterate by asking for the items 0, 1, 2 and so on.
    def __iter__(self):
        raise TypeError("a layout is not iterated over; ask for its wagons, couplings or trains")


def check_layout(value):
    """Raises InvalidLayout unless the value is a Layout."""
    if not isinstance(value, Layout):
        raise InvalidLayout(value)


def check_same_wagons(*layouts):
    """Raises an error unless all values are Layouts of the same wagons."""
    for layout in layouts:
        check_layout(layout)
    if any([layout.wagons != layouts[0].wagons for layout in layouts]):
        raise OtherWagons()


def common(one, other):
    """The layout of the couplings that both layouts have."""
    check_same_wagons(one, other)
    return Layout(one.wagons, [coupling for coupling in one.couplings if coupling in other])


def difference(one, other):
    """The layout of the couplings that only the first layout has."""
    check_same_wagons(one, other)
    return Layout(one.wagons, [coupling for coupling in one.couplings if coupling not in other])
