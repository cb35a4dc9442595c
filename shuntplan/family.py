"""Changes between layouts, majorities, and layouts filled in on a family tree."""

from shuntplan.errors import InvalidFamily, InvalidNumber
from shuntplan.layouts import Layout, check_same_wagons, difference
from shuntplan.trains import is_name

MOST_LEAVES = 16
MOST_NESTED = 6

# What it would cost to have a coupling at a leaf other than its layout does: more than the branch to the leaf may cost.
WRONG_LEAF = 2


def change(one, other):
    """The number of couplings that just one of the layouts has."""
    return len(difference(one, other)) + len(difference(other, one))


def couplings_in(layouts):
    """The list of all couplings that some of these layouts have."""
    return sorted({coupling for layout in layouts for coupling in layout.couplings})


def majority(*layouts):
    """The layout of the couplings that more than half of the layouts have."""
    check_same_wagons(*layouts)
    if len(layouts) % 2 == 0:
        raise InvalidNumber(len(layouts))
    half = len(layouts) // 2
    kept = [
        coupling for coupling in couplings_in(layouts)
        if len([layout for layout in layouts if coupling in layout]) > half
    ]
    return Layout(layouts[0].wagons, kept)


def is_nested(value, deep):
    """Whether any value is made up of names and pairs, nested at most so deep."""
    if is_name(value):
        return True
    if not isinstance(value, tuple) or len(value) != 2 or deep == 0:
        return False
    return all([is_nested(part, deep - 1) for part in value])


def leaves_of(shape):
    """The list of the names in a family, from left to right."""
    if is_name(shape):
        return [shape]
    left, right = shape
    return leaves_of(left) + leaves_of(right)


def places_of(shape):
    """The list of the inner families of a family, each before those of its parts."""
    if is_name(shape):
        return []
    left, right = shape
    return [shape] + places_of(left) + places_of(right)


def is_family(value):
    """Whether any value is a family of at most 16 leaves."""
    if not is_nested(value, MOST_NESTED):
        return False
    leaves = leaves_of(value)
    return len(leaves) <= MOST_LEAVES and len(set(leaves)) == len(leaves)


def check_layouts_at(value, expected):
    """Raises InvalidFamily unless the value is a dict from exactly the expected keys to Layouts."""
    if not isinstance(value, dict) or len(value) != len(expected):
        raise InvalidFamily(value)
    if not all([isinstance(value.get(key), Layout) for key in expected]):
        raise InvalidFamily(value)


class Family:
    """A tree whose leaves are names and whose inner places each have two parts."""

    def __init__(self, shape):
        if not is_family(shape):
            raise InvalidFamily(shape)
        self._shape = shape
        self._leaves = tuple(leaves_of(shape))
        self._places = tuple(places_of(shape))

    @property
    def leaves(self):
        """The names from left to right."""
        return self._leaves

    @property
    def places(self):
        """The inner families: the family itself first, then those of its left part, then those of its right part."""
        return self._places

    def __len__(self):
        return len(self._leaves)

    def __eq__(self, other):
        return isinstance(other, Family) and self._shape == other._shape

    def fill(self, layouts):
        """The tuple of the least cost and a filling with this cost for the layouts at the leaves."""
        self._check_leaf_layouts(layouts)
        at_leaves = list(layouts.values())
        least = 0
        chosen = {place: [] for place in self._places}
        for coupling in couplings_in(at_leaves):
            costs = self._costs(coupling, layouts)
            least = least + min(costs[self._shape])
            for place in self._places_with(costs):
                chosen[place].append(coupling)
        return least, {place: Layout(at_leaves[0].wagons, chosen[place]) for place in self._places}

    def cost(self, layouts, filling):
        """The sum of the changes along all branches."""
        self._check_leaf_layouts(layouts)
        check_layouts_at(filling, self._places)
        changes = 0
        # Branches join all places and leaves, so other wagons anywhere are refused by change.
        for place in self._places:
            for part in place:
                changes = changes + change(filling[place], layouts[part] if part in layouts else filling[part])
        return changes

    def _check_leaf_layouts(self, layouts):
        """Raises an error unless the value is a dict from exactly the leaves to Layouts of the same wagons."""
        check_layouts_at(layouts, self._leaves)
        at_leaves = list(layouts.values())
        check_same_wagons(*at_leaves)

    def _costs(self, coupling, layouts):
        """The dict from each leaf and place to the least costs within it if it has not and if it has the coupling."""
        costs = {leaf: (WRONG_LEAF, 0) if coupling in layouts[leaf] else (0, WRONG_LEAF) for leaf in self._leaves}
        # The parts of a place stand behind it.
        for place in self._places[::-1]:
            below = [costs[part] for part in place]
            absent = sum([min(without, having + 1) for without, having in below])
            present = sum([min(having, without + 1) for without, having in below])
            costs[place] = (absent, present)
        return costs

    def _places_with(self, costs):
        """The list of the places that get the coupling with these costs."""
        absent, present = costs[self._shape]
        having = {self._shape: present < absent}
        # Where both cost the same, a part is as the place above it, so that no end gets two partners: see [17].
        for place in self._places:
            for part in place:
                absent, present = costs[part]
                having[part] = present <= absent + 1 if having[place] else present + 1 < absent
        return [place for place in self._places if having[place]]
