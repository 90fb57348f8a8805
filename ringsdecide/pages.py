"""Pages of a book: the network of what is told at one time, and the relations that are left by it.

Only places of which something is told have cells: to any other place of a kind that glues all relations are left. So
a page stays small, however many places there are.
"""

from ringsdecide.bits import all_bits
from ringsdecide.cells import left_cells, open_cells, tell, tightened
from ringsdecide.networks import Network, with_told


class Page:
    """A network with a completion, the index in the cells of each place told of, and the cells; it never changes."""

    def __init__(self, network, indexes, cells):
        self.written = network
        self.indexes = indexes
        self.cells = cells


def blank_page(kind, places):
    """The page on which nothing is told."""
    return Page(Network(kind, places, []), {}, [])


def left_bits(page, u, v):
    """The bits of the relations that are left from u to v."""
    if u not in page.indexes or v not in page.indexes:
        return all_bits(page.written.kind)
    return page.cells[page.indexes[u]][page.indexes[v]]


def widened(indexes, cells, places, bits):
    """Indexes and cells with these places, too; new cells have these bits."""
    wider = {place: indexes[place] for place in indexes}
    for place in places:
        wider.setdefault(place, len(wider))
    more = len(wider) - len(indexes)
    rows = [row + [bits] * more for row in cells]
    for _ in range(more):
        rows.append([bits] * len(wider))
    return wider, rows


def page_with(joins, page, u, v, x):
    """The page on which a relation that is left is told, too."""
    indexes, cells = widened(page.indexes, page.cells, (u, v), all_bits(joins.kind))
    tell(joins.kind, cells, indexes[u], indexes[v], x)
    tightened(joins, cells, [(indexes[u], indexes[v])])
    return Page(with_told(page.written, u, v, x), indexes, cells)


def page_without(joins, page, u, v):
    """The page on which nothing is told of a pair, whose lesser place comes first, and all else as before."""
    network = page.written
    told = [triple for triple in network.told if triple[:2] != (u, v)]
    places = sorted(set([triple[0] for triple in told] + [triple[1] for triple in told]))
    indexes = {place: at for at, place in enumerate(places)}
    cells = open_cells(joins.kind, len(places))
    for first, second, x in told:
        tell(joins.kind, cells, indexes[first], indexes[second], x)
    return Page(Network(network.kind, network.places, told), indexes, left_cells(joins, cells))
