"""Kinds for which rings decide: a completion, or a bare ring that shows that there is none."""

from ringsdecide.bits import Joins
from ringsdecide.cells import least_rows, left_cells
from ringsdecide.meeting import require_deciding
from ringsdecide.networks import is_completion, told_cells
from ringsdecide.rings import is_bare, is_ring, ring_can
from ringsdecide.walks import lacking_walk, links_of


def network_links(network):
    """The links of told pairs of a network."""
    return links_of(network.kind, network.places, [(u, v, 1 << x) for u, v, x in network.told])


def wrong_ring(joins, network):
    """A bare ring that cannot be completed, of a network without a completion.

    A walk closed by a told pair that cannot be completed can be cut, where it comes to a place again or where two
    further places of it are told, into two shorter ones, one of which cannot be completed either, since the kind
    glues. So a shortest one is a bare ring.
    """
    targets = {(u, v): x for u, v, x in network.told}
    return lacking_walk(joins, network_links(network), targets)


def verdict(network):
    """Some ("full", rows), a completion, or some ("ring", ring), a bare ring that cannot be completed."""
    require_deciding(network.kind)
    joins = Joins(network.kind)
    cells = left_cells(joins, told_cells(network))
    if cells is None:
        return ("ring", wrong_ring(joins, network))
    return ("full", least_rows(joins, cells))


def is_wrong_ring(network, value):
    """Whether any value is a bare ring that cannot be completed."""
    return is_ring(network, value) and is_bare(network, value) and not ring_can(network, value)


def is_verdict(network, value):
    """Whether any value is a verdict on the network."""
    require_deciding(network.kind)
    if not isinstance(value, tuple) or len(value) != 2 or not isinstance(value[0], str):
        return False
    word, shown = value
    if word == "full":
        return is_completion(network, shown)
    return word == "ring" and is_wrong_ring(network, shown)
