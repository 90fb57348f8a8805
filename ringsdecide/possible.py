"""What can still hold in networks of deciding kinds, and ways that show what cannot."""

from ringsdecide.bits import Joins, lot_of
from ringsdecide.cells import all_pairs, left_cells
from ringsdecide.deciding import network_links
from ringsdecide.errors import Refused
from ringsdecide.meeting import require_deciding
from ringsdecide.networks import told_cells
from ringsdecide.rings import is_way, leads_from_to, way_word
from ringsdecide.steps import stepped_lots
from ringsdecide.walks import lacking_walk
from ringsdecide.ways import ends_bits


def possible(network, u, v):
    """The lot of all relations that some completion has from u to v."""
    require_deciding(network.kind)
    cells = left_cells(Joins(network.kind), told_cells(network))
    return () if cells is None else lot_of(cells[u][v])


def possible_rows(network):
    """A tuple of rows: entry v of row u is the lot of all that is possible from u to v."""
    require_deciding(network.kind)
    return stepped_lots(network.kind, told_cells(network))


def sure_pairs(network):
    """All (u, v, x), u less than v, of untold pairs for which x alone is possible."""
    rows = possible_rows(network)
    found = []
    for u, v in all_pairs(network.places):
        if network.between(u, v) is None and len(rows[u][v]) == 1:
            found.append((u, v, rows[u][v][0]))
    return tuple(found)


def way_against(network, u, v, x):
    """Some way of told pairs from u to v whose ends cannot bear x.

    A shortest walk of this sort has no place twice: in a network with a completion what lies between can be left out.
    """
    require_deciding(network.kind)
    joins = Joins(network.kind)
    cells = left_cells(joins, told_cells(network))
    if cells is None:
        raise Refused(1)
    if cells[u][v] >> x & 1:
        raise Refused(0)
    return lacking_walk(joins, network_links(network), {(u, v): x})


def is_way_against(network, u, v, x, value):
    """Whether any value is a way of told pairs from u to v whose ends cannot bear x."""
    require_deciding(network.kind)
    if not leads_from_to(network, value, u, v) or not is_way(network, value):
        return False
    return not ends_bits(Joins(network.kind), way_word(network, value)) >> x & 1
