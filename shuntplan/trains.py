"""Names, ends, rows, and the trains that rows make up."""

from shuntplan.errors import InvalidRow

LETTERS = "abcdefghijklmnopqrstuvwxyz"
NAME_LENGTH = 8
MOST_WAGONS = 30


def is_integer(value):
    """Whether any value is an integer; a bool is none."""
    return isinstance(value, int) and not isinstance(value, bool)


def is_number_below(value, limit):
    """Whether any value is an integer from 0 to less than the limit."""
    return is_integer(value) and 0 <= value < limit


def is_name(value):
    """Whether any value is a name."""
    if not isinstance(value, str) or not 1 <= len(value) <= NAME_LENGTH:
        return False
    return all([letter in LETTERS for letter in value])


def is_name_with(value, numbers):
    """Whether any value is a tuple of a name and one of these numbers."""
    if not isinstance(value, tuple) or len(value) != 2:
        return False
    return is_name(value[0]) and is_integer(value[1]) and value[1] in numbers


def is_end(value):
    """Whether any value is an end of a wagon."""
    return is_name_with(value, (0, 1))


def is_directed(value):
    """Whether any value is a directed wagon."""
    return is_name_with(value, (1, -1))


def is_row(value):
    """Whether any value is a row of 0 to 30 wagons."""
    if not isinstance(value, tuple) or len(value) > MOST_WAGONS:
        return False
    if not all([is_directed(wagon) for wagon in value]):
        return False
    return len({name for name, _ in value}) == len(value)


def check_filled_row(value):
    """Raises InvalidRow unless the value is a row with at least one wagon."""
    if not is_row(value) or value == ():
        raise InvalidRow(value)


def turned(row):
    """The row read from the other side."""
    if not is_row(row):
        raise InvalidRow(row)
    return tuple([(name, -direction) for name, direction in row[::-1]])


def names_of(row):
    """The list of the names in a row, in order."""
    return [name for name, _ in row]


def entry_of(wagon):
    """The end at which one comes to a directed wagon."""
    name, direction = wagon
    return (name, 0) if direction == 1 else (name, 1)


def directed_by(end):
    """The directed wagon that one comes to at this end."""
    name, side = end
    return (name, 1) if side == 0 else (name, -1)


def opposite(end):
    """The other end of the same wagon."""
    name, side = end
    return (name, 1 - side)


def coupling_of(one, other):
    """The coupling of two different ends."""
    return (one, other) if one < other else (other, one)


def row_links(row):
    """The couplings between the neighbours in a row, ascending."""
    return sorted([
        coupling_of(opposite(entry_of(one)), entry_of(other))
        for one, other in zip(row, row[1:])
    ])


def row_text(row):
    """The texts of the directed wagons of a row."""
    return " ".join([name if direction == 1 else "-" + name for name, direction in row])


def line_form(row):
    """The normal form of a line that reads so."""
    if len(row) == 1:
        return ((row[0][0], 1),)
    return row if row[0][0] < row[-1][0] else turned(row)


def ring_form(row):
    """The normal form of a ring that reads so."""
    least = min(names_of(row))
    if (least, 1) not in row:
        row = turned(row)
    at = row.index((least, 1))
    return row[at:] + row[:at]


# Inheriting a method of the interface is not enough (LANGUAGE.md, L5), so Line and Ring repeat the short ones.
class Train:
    """What lines and rings have in common: they are made of a row with at least one wagon."""

    def __init__(self, row):
        check_filled_row(row)
        self._row = row

    @property
    def row(self):
        """The normal form."""
        return self._row

    def text(self):
        """The text of the normal form."""
        return row_text(self._row)

    def links(self):
        """The list of the couplings, ascending."""
        return row_links(self._row)

    def __eq__(self, other):
        return isinstance(other, Train) and self._row == other._row

    def __len__(self):
        return len(self._row)

    def __contains__(self, name):
        return name in names_of(self._row)


class Line(Train):
    """A train with two free ends."""

    def __init__(self, row):
        super().__init__(row)
        self._row = line_form(row)

    @property
    def row(self):
        """The reading whose first name is less than its last one."""
        return self._row

    def text(self):
        """The text of the normal form."""
        return row_text(self._row)

    def links(self):
        """The list of the couplings, ascending: one fewer than wagons."""
        return row_links(self._row)

    def __eq__(self, other):
        return isinstance(other, Line) and self._row == other._row

    def __len__(self):
        return len(self._row)

    def __contains__(self, name):
        return name in names_of(self._row)


class Ring(Train):
    """A train without a free end."""

    def __init__(self, row):
        super().__init__(row)
        self._row = ring_form(row)

    @property
    def row(self):
        """The reading that begins with the least wagon in direction 1."""
        return self._row

    def text(self):
        """The text of the normal form, in brackets."""
        return "(" + row_text(self._row) + ")"

    def links(self):
        """The list of the couplings, ascending: as many as wagons."""
        return row_links(self._row + self._row[:1])

    def __eq__(self, other):
        return isinstance(other, Ring) and self._row == other._row

    def __len__(self):
        return len(self._row)

    def __contains__(self, name):
        return name in names_of(self._row)
