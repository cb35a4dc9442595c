"""Counting: shortest plans, layouts, and the numbers of layouts, also as bytes."""

from math import factorial

from shuntplan.compare import comparison
from shuntplan.errors import InvalidBytes, InvalidNumber, MixedPaths
from shuntplan.layouts import Layout, check_layout, ends_of
from shuntplan.trains import MOST_WAGONS, is_number_below


def power(base, exponent):
    """The product of so many factors; 1 also for an exponent below 0."""
    result = 1
    for _ in range(exponent):
        result = result * base
    return result


def plan_count(one, other):
    """The number of shortest plans from one layout to the other."""
    components = comparison(one, other)
    kinds = [component.kind for component in components]
    if "first" in kinds and "second" in kinds:
        raise MixedPaths()
    needs = [component.need for component in components]
    orders = factorial(sum(needs))
    ways = 1
    for need in needs:
        orders = orders // factorial(need)
        ways = ways * power(need + 1, need - 1)
    return orders * ways


def choices(ends):
    """The number of ways to leave so many ends free or couple them with each other."""
    before, count = 0, 1
    for others in range(ends):
        before, count = count, count + others * before
    return count


def layout_count(wagons):
    """The number of layouts of so many wagons."""
    if not is_number_below(wagons, MOST_WAGONS + 1):
        raise InvalidNumber(wagons)
    return choices(2 * wagons)


def number_of(layout):
    """The number of a layout among all those of its wagons."""
    check_layout(layout)
    number = 0
    undecided = ends_of(layout.wagons)
    while undecided:
        partner = layout[undecided.pop(0)]
        if partner is not None:
            place = undecided.index(partner)
            number = number + choices(len(undecided)) + place * choices(len(undecided) - 1)
            undecided.pop(place)
    return number


def layout_at(wagons, number):
    """The layout of these wagons with this number."""
    undecided = list(Layout(wagons).free)
    if not is_number_below(number, layout_count(len(wagons))):
        raise InvalidNumber(number)
    couplings = []
    while undecided:
        end = undecided.pop(0)
        free = choices(len(undecided))
        if number >= free:
            place, number = divmod(number - free, choices(len(undecided) - 1))
            couplings.append((end, undecided.pop(place)))
    return Layout(wagons, couplings)


def byte_count(wagons):
    """The number of bytes for the greatest number of a layout of so many wagons."""
    greatest = layout_count(wagons) - 1
    return (greatest.bit_length() + 7) // 8


def packed(layout):
    """The list of the byte values of a layout's number, the highest one first."""
    number = number_of(layout)
    values = []
    for _ in range(byte_count(len(layout.wagons))):
        values.append(number & 255)
        number = number >> 8
    return values[::-1]


def is_byte_list(value, count):
    """Whether any value is a list of so many byte values."""
    if not isinstance(value, (list, tuple)) or len(value) != count:
        return False
    return all([is_number_below(byte, 256) for byte in value])


def unpacked(wagons, values):
    """The layout of these wagons whose number has these byte values."""
    count = len(Layout(wagons).wagons)
    if not is_byte_list(values, byte_count(count)):
        raise InvalidBytes(values)
    number = 0
    for value in values:
        number = (number << 8) + value
    if number >= layout_count(count):
        raise InvalidBytes(values)
    return layout_at(wagons, number)
