"""Stretches that two rows have in common, their tree, and reversals of a row that keep them."""

from shuntplan.errors import InvalidNumber, OtherWagons, PrimeStretch
from shuntplan.trains import check_filled_row, is_number_below, names_of, turned


class Node:
    """A strong stretch, with those that it falls into."""

    def __init__(self, names, kind, children):
        self._names = tuple(names)
        self._kind = kind
        self._children = tuple(children)

    @property
    def names(self):
        """The names in the order of the first row."""
        return self._names

    @property
    def kind(self):
        """One of "straight", "reversed" and "prime"."""
        return self._kind

    @property
    def children(self):
        """The Nodes of the greatest strong stretches within it, in the order of the first row."""
        return self._children

    def walk(self):
        """Yields the node, then the nodes of each child's walk."""
        yield self
        for child in self._children:
            yield from child.walk()

    def __len__(self):
        return len(self._names)

    def __eq__(self, other):
        if not isinstance(other, Node) or self._names != other._names or self._kind != other._kind:
            return False
        return self._children == other._children


def check_rows(one, other):
    """Raises an error unless both values are rows of the same wagons, at least one."""
    check_filled_row(one)
    check_filled_row(other)
    if sorted(names_of(one)) != sorted(names_of(other)):
        raise OtherWagons()


def places_in(row, names):
    """The list of the indexes at which these names stand in a row."""
    order = names_of(row)
    return [order.index(name) for name in names]


def stand_together(places):
    """Whether different indexes are those of neighbours."""
    return max(places) - min(places) == len(places) - 1


def spans_of(one, other):
    """The list of all stretches, each as the pair of indexes between which it stands in the first row."""
    places = places_in(other, names_of(one))
    ends = range(len(places) + 1)
    return [(start, stop) for start in ends for stop in ends if start < stop and stand_together(places[start:stop])]


def cross(one, other):
    """Whether two spans have a part in common, and each also a part of its own."""
    return one[0] < other[0] < one[1] < other[1] or other[0] < one[0] < other[1] < one[1]


def strong_spans(one, other):
    """The list of the spans of all strong stretches, those that begin earlier first."""
    spans = spans_of(one, other)
    return [span for span in spans if not any([cross(span, rival) for rival in spans])]


def width(span):
    """The number of wagons in a span."""
    return span[1] - span[0]


def children_by_span(spans):
    """The dict from each of these spans, which do not cross, to the list of those whose parent it is."""
    children = {span: [] for span in spans}
    for start, stop in spans:
        around = [span for span in spans if span[0] <= start and stop <= span[1] and span != (start, stop)]
        if around:
            children[min(around, key=width)].append((start, stop))
    return children


def kind_of(wagons, children, other):
    """The kind of the strong stretch of these wagons of the first row; children are its Nodes."""
    if len(wagons) == 1:
        return "straight" if wagons[0] in other else "reversed"
    places = places_in(other, [child.names[0] for child in children])
    if places == sorted(places):
        return "straight"
    return "reversed" if places == sorted(places, reverse=True) else "prime"


def node_of(span, parts, one, other):
    """The Node of a span; parts is the dict from each span to its children."""
    children = [node_of(child, parts, one, other) for child in parts[span]]
    wagons = one[span[0]:span[1]]
    return Node(names_of(wagons), kind_of(wagons, children, other), children)


def stretch_tree(one, other):
    """The Node of all wagons."""
    check_rows(one, other)
    parts = children_by_span(strong_spans(one, other))
    return node_of((0, len(one)), parts, one, other)


def is_stretch(one, other, names):
    """Whether any value is the tuple of the names of a stretch in the order of the first row."""
    check_rows(one, other)
    order = tuple(names_of(one))
    if not isinstance(names, tuple) or names == () or names[0] not in order:
        return False
    start = order.index(names[0])
    return order[start:start + len(names)] == names and stand_together(places_in(other, names))


def reversed_row(row, first, last):
    """The row in which the wagons from the first to the last index are turned around."""
    check_filled_row(row)
    if not is_number_below(first, len(row)):
        raise InvalidNumber(first)
    if not is_number_below(last, len(row)) or last < first:
        raise InvalidNumber(last)
    return row[:first] + turned(row[first:last + 1]) + row[last + 1:]


def turned_within(node, kind):
    """The list of the names of the strong stretches in a node that differ from their parents, whose kind is given."""
    found = [] if node.kind == kind else [node.names]
    for child in node.children:
        found.extend(turned_within(child, node.kind))
    return found


def kept_plan(one, other):
    """The list of the stretches whose reversals, in any order, lead from the first to the second row."""
    tree = stretch_tree(one, other)
    for node in tree.walk():
        if node.kind == "prime":
            raise PrimeStretch(node.names)
    return turned_within(tree, "straight")


def kept_distance(one, other):
    """The least number of reversals from one row to the other that keep all stretches."""
    return len(kept_plan(one, other))
