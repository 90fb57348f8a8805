"""Rings of told pairs."""

from ringsdecide.networks import Network, tried_completion
from ringsdecide.values import are_below
from ringsdecide.ways import closes

# Rings of more places are asked about for kinds that glue only.
MOST_TRIED = 8


def are_different_places(network, value):
    """Whether any value is a tuple of different places."""
    return isinstance(value, tuple) and are_below(value, network.places) and len(set(value)) == len(value)


def leads_from_to(network, value, u, v):
    """Whether any value is a tuple of different places, the first one u, the last one v."""
    return are_different_places(network, value) and value[:1] == (u,) and value[-1:] == (v,)


def way_word(network, way):
    """The relations told from each place of a way to the next one."""
    return tuple([network.between(way[at - 1], way[at]) for at in range(1, len(way))])


def is_way(network, value):
    """Whether any value is a way: two or more different places, neighbours being told."""
    return are_different_places(network, value) and len(value) > 1 and None not in way_word(network, value)


def is_ring(network, value):
    """Whether any value is a ring: three or more different places whose neighbours are told."""
    if not are_different_places(network, value) or len(value) < 3:
        return False
    return None not in ring_word(network, value)


def ring_word(network, ring):
    """The relations told from each place of a ring to the next one, and from the last to the first."""
    many = len(ring)
    return tuple([network.between(ring[at], ring[(at + 1) % many]) for at in range(many)])


def is_beside(network, v, places):
    """Whether a place is told with one of others."""
    for u in places:
        if network.between(u, v) is not None:
            return True
    return False


def is_bare(network, ring):
    """Whether no two places of a ring are told but its neighbours."""
    for at in range(2, len(ring)):
        # The last place is a neighbour of the first one.
        first = 1 if at == len(ring) - 1 else 0
        if is_beside(network, ring[at], ring[first:at - 1]):
            return False
    return True


def next_places(network, path):
    """The places greater than the first one of a path, told with its last one and with none between these two."""
    found = []
    for v in range(path[0] + 1, network.places):
        if v not in path and network.between(path[-1], v) is not None and not is_beside(network, v, path[1:-1]):
            found.append(v)
    return found


def bare_rings(network):
    """All bare rings, each once, from the least place on, the second place less than the last."""
    found = []
    waiting = [(u,) for u in range(network.places)]
    while waiting:
        path = waiting.pop()
        for v in next_places(network, path):
            if len(path) == 1 or network.between(path[0], v) is None:
                waiting.append(path + (v,))
            elif path[1] < v:
                found.append(path + (v,))
    return tuple(sorted(found))


def ring_network(network, ring):
    """The network of a ring by itself, its places numbered as they stand in it."""
    word = ring_word(network, ring)
    told = [(at, (at + 1) % len(ring), x) for at, x in enumerate(word)]
    return Network(network.kind, len(ring), told)


def ring_can(network, ring):
    """Whether a ring by itself can be completed."""
    if not closes(network.kind, ring_word(network, ring)):
        return False
    # For a kind that glues this is enough; it may be another one if the places are few, so these are tried out.
    return len(ring) > MOST_TRIED or tried_completion(ring_network(network, ring)) is not None
