"""Distances: bounded sums of some numbers, and which sets of numbers make kinds that glue."""

from itertools import combinations

from ringsdecide.built import check_numbers, distance_kind
from ringsdecide.errors import InvalidQuestion, NotDeciding
from ringsdecide.gluing import fault_over
from ringsdecide.values import is_integer, is_sequence


def bounded(numbers, total):
    """The greatest of the numbers that is not above a total."""
    return max([number for number in numbers if number <= total])


def sum_along(numbers, row):
    """The bounded sum of one or more of the numbers."""
    total = row[0]
    for number in row[1:]:
        total = bounded(numbers, total + number)
    return total


def check_row(numbers, row):
    """Refuse any value that is no sequence of one or more of the numbers."""
    if not is_sequence(row) or len(row) == 0:
        raise InvalidQuestion(0)
    for at, number in enumerate(row):
        if not is_integer(number) or number not in numbers:
            raise InvalidQuestion(at)


def bounded_sum(numbers, row):
    """The bounded sum of some of the numbers, one behind the other."""
    check_numbers(numbers)
    check_row(numbers, row)
    return sum_along(numbers, row)


def bracket_fault(numbers):
    """None, or the first three of the numbers whose bounded sum depends on which two of them are put together first."""
    check_numbers(numbers)
    for a in numbers:
        for b in numbers:
            for c in numbers:
                if sum_along(numbers, (a, b, c)) != sum_along(numbers, (a, sum_along(numbers, (b, c)))):
                    return (a, b, c)
    return None


def require_brackets(numbers):
    """Refuse what are no numbers, then numbers whose kind does not glue: brackets tell that, and are soon tried."""
    if bracket_fault(numbers) is not None:
        raise NotDeciding(0)


def distance_fault(numbers):
    """None, or some fault with two places of the kind of these distances."""
    return fault_over(distance_kind(numbers), 2)


def gluing_sets(most, size):
    """All sets of so many numbers from 1 to `most` whose kinds glue."""
    return tuple([numbers for numbers in combinations(range(1, most + 1), size) if bracket_fault(numbers) is None])


def least_sums(numbers):
    """The bounded sums of 1, 2, 3, .. times the least number, as long as they grow."""
    check_numbers(numbers)
    found = [numbers[0]]
    total = bounded(numbers, 2 * numbers[0])
    while total > found[-1]:
        found.append(total)
        total = bounded(numbers, total + numbers[0])
    return tuple(found)


def distance_reach(numbers):
    """The reach of the kind of these distances: 2 or more, or None if rings of all lengths can go wrong."""
    require_brackets(numbers)
    sums = least_sums(numbers)
    if sums[-1] != numbers[-1]:
        return None
    return max(2, len(sums))
