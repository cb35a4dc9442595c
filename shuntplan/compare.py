"""Comparing two layouts of the same wagons: components, the distance, and shortest plans."""

from shuntplan.layouts import Layout, check_same_wagons, ends_of
from shuntplan.steps import are_neighbours, neighbours, step_towards


class Component:
    """Ends of a comparison that are joined by the couplings of the two layouts by turns."""

    def __init__(self, kind, ends):
        self._kind = kind
        self._ends = tuple(ends)
        self._need = len(ends) // 2 - 1 if kind == "cycle" else len(ends) // 2

    @property
    def kind(self):
        """One of "cycle", "odd", "first" and "second"."""
        return self._kind

    @property
    def need(self):
        """The number of steps that the component takes."""
        return self._need

    @property
    def ends(self):
        """The ends as one walks along: around a cycle, or from one outer end of a path to the other."""
        return self._ends

    def __len__(self):
        return len(self._ends)

    def __eq__(self, other):
        return isinstance(other, Component) and self._kind == other._kind and self._ends == other._ends


def ends_along(start, one, other):
    """The list of the ends from this one on, over couplings of one and of the other layout by turns."""
    ends = [start]
    end = one[start]
    while end is not None and end != start:
        ends.append(end)
        one, other = other, one
        end = one[end]
    return ends


def component_from(start, one, other):
    """The Component that begins with an outer end of a path or the least end of a cycle."""
    if one[start] is None:
        ends = ends_along(start, other, one)
        return Component("first" if len(ends) % 2 == 0 else "odd", ends)
    ends = ends_along(start, one, other)
    if other[start] is None:
        return Component("second" if len(ends) % 2 == 0 else "odd", ends)
    return Component("cycle", ends)


def least_end(component):
    """The least of the ends of a component."""
    return min(component.ends)


def comparison(one, other):
    """The list of the Components, by their least ends."""
    check_same_wagons(one, other)
    ends = ends_of(one.wagons)
    outer = [end for end in ends if one[end] is None or other[end] is None]
    seen = []
    components = []
    # When all outer ends have been looked at, only cycles are left.
    for start in outer + ends:
        if start not in seen:
            component = component_from(start, one, other)
            seen.extend(component.ends)
            components.append(component)
    return sorted(components, key=least_end)


def distance(one, other):
    """The least number of steps from one layout to the other."""
    return sum([component.need for component in comparison(one, other)])


def plan(one, other):
    """The list of the layouts of a shortest plan from the first to the second one."""
    check_same_wagons(one, other)
    layouts = [one]
    # Each such step makes a cycle of two ends or, where no coupling is to be made, two paths of one end.
    while layouts[-1] != other:
        step = step_towards(layouts[-1], other)
        layouts.append(step(layouts[-1]))
    return layouts


def best_next(one, other):
    """The list of all different neighbours of the first layout that are nearer to the second one."""
    before = distance(one, other)
    return [layout for layout in neighbours(one) if distance(layout, other) < before]


def is_plan(value):
    """Whether any value is a list of Layouts, each a neighbour of the one before it."""
    if not isinstance(value, (list, tuple)) or len(value) == 0:
        return False
    if not all([isinstance(layout, Layout) for layout in value]):
        return False
    if any([layout.wagons != value[0].wagons for layout in value]):
        return False
    return all([are_neighbours(one, other) for one, other in zip(value, value[1:])])
