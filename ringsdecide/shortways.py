"""Short ways: what told distances leave to further places, along ways with the least bounded sums."""

from heapq import heappop, heappush

from ringsdecide.built import distance_kind
from ringsdecide.distances import bounded, require_brackets, sum_along
from ringsdecide.errors import InvalidQuestion, Refused
from ringsdecide.rings import is_way, way_word


def check_network(numbers, network):
    """Refuse numbers that are none, then a network of another kind than theirs."""
    if network.kind != distance_kind(numbers):
        raise Refused(0)


def check_gluing_network(numbers, network):
    """Refuse what `check_network` refuses, then numbers whose kind does not glue."""
    check_network(numbers, network)
    require_brackets(numbers)


def told_sum(numbers, network, way):
    """The bounded sum of the numbers told along a way."""
    return sum_along(numbers, [numbers[x] for x in way_word(network, way)])


def way_sum(numbers, network, way):
    """The bounded sum of a way; any value is refused that is none."""
    check_network(numbers, network)
    if not is_way(network, way):
        raise InvalidQuestion(0)
    return told_sum(numbers, network, way)


def told_numbers(numbers, network):
    """For each place those that are told with it, each with the number told."""
    found = [[] for _ in range(network.places)]
    for u, v, x in network.told:
        found[u].append((v, numbers[x]))
        found[v].append((u, numbers[x]))
    return found


def sums_from(numbers, told, start):
    """A dict: each place that ways from the start lead to, with the least bounded sum of them, and the place before.

    A bounded sum never becomes less by what is put behind it, and grows with what it begins with; so the place with
    the least sum of those that are left is settled.
    """
    settled = {}
    waiting = [(0, start, start)]
    while waiting:
        total, place, before = heappop(waiting)
        if place in settled:
            continue
        settled[place] = (total, before)
        for other, number in told[place]:
            if other not in settled:
                heappush(waiting, (bounded(numbers, total + number), other, place))
    return settled


def way_back(settled, start, place):
    """The way from the start to a place, by what `sums_from` tells."""
    found = [place]
    while found[-1] != start:
        _, before = settled[found[-1]]
        found.append(before)
    return tuple(found[::-1])


def short_way(numbers, network, u, v):
    """Some way from u to v with the least bounded sum, None if there is no way."""
    check_gluing_network(numbers, network)
    settled = sums_from(numbers, told_numbers(numbers, network), u)
    return way_back(settled, u, v) if v in settled else None


def greatest_row(numbers, network, told, u):
    """The greatest relations from u to all places; None for itself."""
    settled = sums_from(numbers, told, u)
    found = [len(numbers) - 1] * network.places
    for v in settled:
        total, _ = settled[v]
        found[v] = None if v == u else numbers.index(total)
    return tuple(found)


def greatest_completion(numbers, network):
    """None, or the completion in which each two places have the greatest distance that they have in any."""
    check_gluing_network(numbers, network)
    told = told_numbers(numbers, network)
    rows = tuple([greatest_row(numbers, network, told, u) for u in range(network.places)])
    for u, v, x in network.told:
        if rows[u][v] != x:
            return None
    return rows


def long_pair(numbers, network):
    """None if there is a completion, else some way whose ends are told a distance greater than its bounded sum."""
    check_gluing_network(numbers, network)
    told = told_numbers(numbers, network)
    for u in range(network.places):
        settled = sums_from(numbers, told, u)
        for v, number in told[u]:
            total, _ = settled[v]
            if total < number:
                return way_back(settled, u, v)
    return None


def is_long_pair(numbers, network, value):
    """Whether any value is a way whose ends are told a distance greater than its bounded sum."""
    check_network(numbers, network)
    if not is_way(network, value):
        return False
    x = network.between(value[0], value[-1])
    return x is not None and numbers[x] > told_sum(numbers, network, value)
