"""Networks: places, and relations told of some pairs of them."""

from ringsdecide.bits import Joins
from ringsdecide.cells import first_fitting, open_cells, tell
from ringsdecide.errors import InvalidNetwork, Refused
from ringsdecide.fullnets import is_full
from ringsdecide.values import is_below, is_integer, is_sequence


def check_places(places):
    """Refuse any value that is no integer from 1 on."""
    if not is_integer(places) or places < 1:
        raise InvalidNetwork(0)


def is_told_triple(kind, places, value):
    """Whether any value is a triple of two unlike places and a relation."""
    if not isinstance(value, tuple) or len(value) != 3:
        return False
    u, v, x = value
    return is_below(u, places) and is_below(v, places) and u != v and is_below(x, kind.relations)


def told_pairs(kind, places, told):
    """A dict: each told pair, in both orders, and its relation; any values are refused that tell none."""
    if not is_sequence(told):
        raise InvalidNetwork(1)
    found = {}
    for at, entry in enumerate(told):
        if not is_told_triple(kind, places, entry):
            raise InvalidNetwork(1 + at)
        u, v, x = entry
        if (u, v) in found:
            raise InvalidNetwork(1 + at)
        found[u, v] = x
        found[v, u] = kind.turned[x]
    return found


class Network:
    """Relations of a kind told of some pairs of places; it never changes."""

    def __init__(self, kind, places, told):
        check_places(places)
        self.kind = kind
        self.places = places
        # Both orders of each told pair are kept, so that `between` is one look.
        self._table = told_pairs(kind, places, told)
        self.told = tuple([(u, v, self._table[u, v]) for u, v in sorted(self._table) if u < v])

    def between(self, u, v):
        """The relation told from u to v, or None."""
        return self._table.get((u, v))

    def __eq__(self, other):
        if not isinstance(other, Network):
            return False
        return self.kind == other.kind and self.places == other.places and self.told == other.told


def with_told(network, u, v, x):
    """The network with the relation x told from u to v, too."""
    if network.between(u, v) is not None:
        raise Refused(0)
    return Network(network.kind, network.places, network.told + ((u, v, x),))


def rows_of(network):
    """A tuple of rows: entry v of row u is the relation told from u to v, or None."""
    places = range(network.places)
    return tuple([tuple([network.between(u, v) for v in places]) for u in places])


def is_completion(network, value):
    """Whether any value is a full network of so many places in which all told relations stand."""
    if not is_full(network.kind, value) or len(value) != network.places:
        return False
    for u, v, x in network.told:
        if value[u][v] != x:
            return False
    return True


def told_cells(network):
    """Cells with each told relation alone, and all relations of the other pairs."""
    cells = open_cells(network.kind, network.places)
    for u, v, x in network.told:
        tell(network.kind, cells, u, v, x)
    return cells


def tried_completion(network):
    """The first completion, or None, for every kind."""
    return first_fitting(Joins(network.kind), told_cells(network))


def way_told(word, u, v, first):
    """What tells a way of this word from u to v; the places between are numbered from `first` on."""
    places = [u] + [first + at for at in range(len(word) - 1)] + [v]
    return [(places[at], places[at + 1], x) for at, x in enumerate(word)]
