"""Telling what is possible, one relation after another: whoever does so in a deciding kind is never stuck."""

from ringsdecide.bits import Joins
from ringsdecide.cells import least_rows, left_cells, tell, tightened
from ringsdecide.errors import Refused
from ringsdecide.meeting import require_deciding
from ringsdecide.networks import Network, is_told_triple, told_cells
from ringsdecide.values import is_sequence


def is_possible(network, cells, choice):
    """Whether any value is a triple of two unlike places and a relation that the cells leave to them."""
    if cells is None or not is_told_triple(network.kind, network.places, choice):
        return False
    u, v, x = choice
    return cells[u][v] >> x & 1 == 1


def chosen(network, choices):
    """The network in which these triples are told, too, one after another; any one that is not possible is refused."""
    require_deciding(network.kind)
    if not is_sequence(choices):
        raise Refused(0)
    joins = Joins(network.kind)
    cells = left_cells(joins, told_cells(network))
    told = {(u, v): x for u, v, x in network.told}
    for at, choice in enumerate(choices):
        if not is_possible(network, cells, choice):
            raise Refused(at)
        u, v, x = choice
        if (v, u) not in told:
            # A pair that is told can only be told again as it is.
            told[u, v] = x
        tell(network.kind, cells, u, v, x)
        tightened(joins, cells, [(u, v)])
    return Network(network.kind, network.places, [(u, v, told[u, v]) for u, v in told])


def filled(network):
    """The completion that comes about if pair by pair the least possible relation is told."""
    require_deciding(network.kind)
    joins = Joins(network.kind)
    cells = left_cells(joins, told_cells(network))
    if cells is None:
        raise Refused(0)
    return least_rows(joins, cells)
