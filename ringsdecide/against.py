"""What is against a kind that does not decide: a network without a completion, though no bare ring of it goes wrong."""

from ringsdecide.bits import all_bits
from ringsdecide.errors import Refused
from ringsdecide.gluing import gluing_fault
from ringsdecide.meeting import meeting_fault, meets_all
from ringsdecide.networks import Network, tried_completion, way_told
from ringsdecide.rings import bare_rings, ring_can
from ringsdecide.ways import shortest_words

MOST_PLACES = 8


def network_apart(kind, fault):
    """The network of a gluing fault: all pairs are told but that of the two new places, which come last."""
    rows, one, other = fault
    many = len(rows)
    told = [(u, v, rows[u][v]) for v in range(many) for u in range(v)]
    told = told + [(many, u, x) for u, x in enumerate(one)]
    told = told + [(many + 1, u, x) for u, x in enumerate(other)]
    return Network(kind, many + 2, told)


def clash_within(words, chosen, left, places):
    """Lots that meet two by two and leave nothing, their words having at most so many places between, or None.

    They are a list with the chosen ones ahead. Each further one leaves out the least relation that is left, as some
    lot of any such has to; so they are as many as relations at most.
    """
    if left == 0:
        return chosen
    for bits in words:
        between = len(words[bits]) - 1
        if between <= places and bits & left & -left == 0 and meets_all(bits, chosen):
            found = clash_within(words, chosen + [bits], left & bits, places - between)
            if found is not None:
                return found
    return None


def network_of_clash(kind, words):
    """The network of these words along ways from place 0 to place 1, without other common places."""
    told = []
    places = 2
    for word in words:
        told = told + way_told(word, 0, 1, places)
        places += len(word) - 1
    return Network(kind, places, told)


def smallest_clash(kind):
    """Words whose lots meet two by two, but not all together, with the fewest places that may be, or None."""
    words = shortest_words(kind)
    for places in range(MOST_PLACES - 1):
        clash = clash_within(words, [], all_bits(kind), places)
        if clash is not None:
            return [words[bits] for bits in clash]
    return None


def against(kind):
    """None for a deciding kind, else some network whose bare rings can be completed, though it can't."""
    fault = gluing_fault(kind)
    if fault is not None:
        return network_apart(kind, fault)
    if meeting_fault(kind) is None:
        return None
    clash = smallest_clash(kind)
    if clash is None:
        raise Refused(0)
    return network_of_clash(kind, clash)


def is_against(kind, value):
    """Whether any value is a network of the kind that has no completion, though all its bare rings can be completed."""
    if not isinstance(value, Network) or value.kind != kind or value.places > MOST_PLACES:
        return False
    for ring in bare_rings(value):
        if not ring_can(value, ring):
            return False
    return tried_completion(value) is None
