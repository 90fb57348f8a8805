"""Some kinds: free, barred, orders, levels, distances, sums and sectors of a clock."""

from ringsdecide.errors import InvalidKind
from ringsdecide.kinds import Kind, check_triples, check_turned, readings
from ringsdecide.values import is_number

MOST_NUMBERS = 6


def all_triples(many):
    """All triples of so many relations, ascending."""
    return [(x, y, z) for x in range(many) for y in range(many) for z in range(many)]


def own_turned(many):
    """So many relations, each its own turned one."""
    return tuple(range(many))


def free_kind(many):
    """So many relations, each its own turned one, all triples."""
    return Kind(own_turned(many), all_triples(many))


def barred_kind(turned, barred):
    """All triples but the readings of the barred ones."""
    check_turned(turned)
    many = len(turned)
    check_triples(barred, many)
    out = set()
    for triple in barred:
        for reading in readings(turned, triple):
            out.add(reading)
    return Kind(turned, [triple for triple in all_triples(many) if triple not in out])


def order_kind():
    """Before (0) and after (1), of unlike places in a row."""
    return barred_kind((1, 0), [(0, 0, 1)])


def is_level(triple):
    """Whether the two greatest of the three are equal."""
    _, middle, greatest = sorted(triple)
    return middle == greatest


def level_kind(many):
    """Levels: the two greatest of a triple are equal."""
    return Kind(own_turned(many), [triple for triple in all_triples(many) if is_level(triple)])


def check_numbers(numbers):
    """Refuse any value that is no ascending tuple of 1 to 6 numbers from 1 on."""
    if not isinstance(numbers, tuple) or len(numbers) == 0:
        raise InvalidKind(0)
    before = 0
    for at, number in enumerate(numbers):
        if not is_number(number) or number <= before:
            raise InvalidKind(at)
        before = number
    if len(numbers) > MOST_NUMBERS:
        raise InvalidKind(MOST_NUMBERS)


def is_triangle(a, b, c):
    """Whether no one of the three distances is greater than the sum of the others."""
    return 2 * max(a, b, c) <= a + b + c


def distance_kind(numbers):
    """Relation i means the distance numbers[i]; triples are the triangles that there can be."""
    check_numbers(numbers)
    many = len(numbers)
    triples = [(x, y, z) for x, y, z in all_triples(many) if is_triangle(numbers[x], numbers[y], numbers[z])]
    return Kind(own_turned(many), triples)


def sum_kind(many):
    """Hours of a clock: z is x + y."""
    turned = [(many - x) % many for x in range(many)]
    return Kind(turned, [(x, y, (x + y) % many) for x in range(many) for y in range(many)])


def sector_kind(many):
    """Hours of a clock: z is x + y or x + y + 1."""
    turned = [many - 1 - x for x in range(many)]
    triples = [(x, y, (x + y + more) % many) for x in range(many) for y in range(many) for more in range(2)]
    return Kind(turned, triples)
