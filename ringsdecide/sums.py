"""Sums on a clock: heights of places, rings that do not sum to 0, how many completions there are."""

from ringsdecide.bits import Joins
from ringsdecide.built import sum_kind
from ringsdecide.deciding import wrong_ring
from ringsdecide.errors import InvalidQuestion, Refused
from ringsdecide.pairs import count_parts, tree_steps
from ringsdecide.rings import is_bare, is_ring, ring_word


def check_sums(network):
    """Refuse a network of a kind that is not one of sums."""
    if network.kind != sum_kind(network.kind.relations):
        raise Refused(0)


def told_sum(network, ring):
    """The sum along a ring, modulo the number of relations."""
    return sum(ring_word(network, ring)) % network.kind.relations


def ring_sum(network, ring):
    """The sum along a ring; any value is refused that is none."""
    check_sums(network)
    if not is_ring(network, ring):
        raise InvalidQuestion(0)
    return told_sum(network, ring)


def told_steps(network):
    """What `tree_steps` tells of the told pairs of a network."""
    return tree_steps(network.places, [(u, v) for u, v, _ in network.told])


def heights(network):
    """None if some ring does not sum to 0, else a number for each place, told relations being their differences."""
    check_sums(network)
    many = network.kind.relations
    found = [0] * network.places
    steps = told_steps(network)
    for v in steps:
        u = steps[v]
        if u is not None:
            found[v] = (found[u] + network.between(u, v)) % many
    for u, v, x in network.told:
        if (found[v] - found[u] - x) % many != 0:
            return None
    return tuple(found)


def uneven_ring(network):
    """None, or some bare ring that does not sum to 0."""
    if heights(network) is not None:
        return None
    # A ring can be completed exactly if it sums to 0.
    return wrong_ring(Joins(network.kind), network)


def is_uneven_ring(network, value):
    """Whether any value is a bare ring that does not sum to 0."""
    check_sums(network)
    return is_ring(network, value) and is_bare(network, value) and told_sum(network, value) != 0


def rows_of_heights(many, row):
    """The full network of differences of integers, modulo `many`."""
    places = range(len(row))
    return tuple([tuple([None if u == v else (row[v] - row[u]) % many for v in places]) for u in places])


def count_completions(network):
    """How many completions a network has."""
    if heights(network) is None:
        return 0
    found = 1
    # The heights of the first part can be kept, those of each further one can be raised by any hour.
    for _ in range(count_parts(told_steps(network)) - 1):
        found = found * network.kind.relations
    return found
