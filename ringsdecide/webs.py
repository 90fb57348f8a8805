"""Webs: which pairs of places are told, not what."""

from ringsdecide.built import free_kind
from ringsdecide.errors import InvalidNetwork
from ringsdecide.networks import Network, check_places
from ringsdecide.values import is_row, is_sequence


def told_pairs(places, pairs):
    """All pairs of any value, ascending, the lesser place first; what tells no pairs is refused."""
    if not is_sequence(pairs):
        raise InvalidNetwork(1)
    found = set()
    for at, entry in enumerate(pairs):
        if not is_row(entry, 2, places) or entry[0] == entry[1]:
            raise InvalidNetwork(1 + at)
        pair = (min(entry), max(entry))
        if pair in found:
            raise InvalidNetwork(1 + at)
        found.add(pair)
    return tuple(sorted(found))


class Web:
    """Pairs of places that are told, whatever may be told of them; it never changes."""

    def __init__(self, places, pairs):
        check_places(places)
        self.places = places
        self.pairs = told_pairs(places, pairs)

    def __eq__(self, other):
        return isinstance(other, Web) and self.places == other.places and self.pairs == other.pairs


def plain_network(web):
    """The network in which each pair of a web is told the only relation there is; its rings are those of the web."""
    return Network(free_kind(1), web.places, [(u, v, 0) for u, v in web.pairs])
