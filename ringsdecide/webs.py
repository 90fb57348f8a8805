"""Webs: which pairs of places are told, not what; and on which webs nothing goes wrong."""

from itertools import combinations

from ringsdecide.bits import Joins
from ringsdecide.built import free_kind
from ringsdecide.cells import all_pairs, left_cells
from ringsdecide.errors import InvalidNetwork, Refused
from ringsdecide.gluing import grown, require_gluing
from ringsdecide.kinds import is_allowed
from ringsdecide.meeting import require_deciding
from ringsdecide.networks import Network, check_places, told_cells
from ringsdecide.pairs import beside_places, triangles_of
from ringsdecide.reaching import bad_round, far_relations, is_risky_length, lots_in_turn
from ringsdecide.rings import bare_rings
from ringsdecide.values import is_row, is_sequence
from ringsdecide.ways import placed


def told_pairs(places, pairs):
    """All pairs of any value, ascending, the lesser place first; what tells no pairs is refused."""
    if not is_sequence(pairs):
        raise InvalidNetwork(1)
    found = set()
    for at, entry in enumerate(pairs):
        if not is_row(entry, 2, places) or entry[0] == entry[1]:
            raise InvalidNetwork(1 + at)
        pair = (min(entry), max(entry))
        if pair in found:
            raise InvalidNetwork(1 + at)
        found.add(pair)
    return tuple(sorted(found))


class Web:
    """Pairs of places that are told, whatever may be told of them; it never changes."""

    def __init__(self, places, pairs):
        check_places(places)
        self.places = places
        self.pairs = told_pairs(places, pairs)

    def __eq__(self, other):
        return isinstance(other, Web) and self.places == other.places and self.pairs == other.pairs


def plain_network(web):
    """The network in which each pair of a web is told the only relation there is; its rings are those of the web."""
    return Network(free_kind(1), web.places, [(u, v, 0) for u, v in web.pairs])


def told_pairs_of(network):
    """The told pairs of a network, ascending."""
    return tuple([(u, v) for u, v, _ in network.told])


def web_of(network):
    """The web of the told pairs of a network."""
    return Web(network.places, told_pairs_of(network))


def web_rings(web):
    """All bare rings, each once, from the least place on, the second place less than the last."""
    return bare_rings(plain_network(web))


def longest_ring(web):
    """How many places the longest bare ring of four or more has; 3 if there is none."""
    return max([3] + [len(ring) for ring in web_rings(web)])


def is_sound_network(network):
    """Whether all told triangles are allowed."""
    for u, v, w in triangles_of(network.places, told_pairs_of(network)):
        if not is_allowed(network.kind, network.between(u, v), network.between(v, w), network.between(u, w)):
            return False
    return True


def risky_lengths(kind, most):
    """The risky lengths of rings from four places to so many."""
    turns = lots_in_turn(kind)
    return [length for length in range(4, most + 1) if is_risky_length(kind, turns, length)]


def rings_of_lengths(web, lengths):
    """The bare rings that have so many places."""
    return [ring for ring in web_rings(web) if len(ring) in lengths]


def is_safe(kind, web):
    """Whether the web has no bare ring of four or more places whose length is risky."""
    require_deciding(kind)
    return not rings_of_lengths(web, risky_lengths(kind, web.places))


def told_around(kind, web, ring, far):
    """The network of the web that tells a bad round on a bare ring, and a far relation on all other pairs."""
    told = {}
    for at, x in enumerate(bad_round(kind, len(ring))):
        told[ring[at], ring[(at + 1) % len(ring)]] = x
    for u, v in web.pairs:
        if (u, v) not in told and (v, u) not in told:
            # It is read from places of the ring to others, among these from earlier to later ones.
            pair = (v, u) if v in ring else (u, v)
            told[pair] = far
    return Network(kind, web.places, [(u, v, told[u, v]) for u, v in told])


def spoiled(kind, web):
    """None if the web is safe, else some sound network of it that has no completion, for kinds with a far relation."""
    require_deciding(kind)
    rings = rings_of_lengths(web, risky_lengths(kind, web.places))
    if not rings:
        return None
    far = far_relations(kind)
    if not far:
        raise Refused(0)
    return told_around(kind, web, rings[0], far[0])


def is_spoiled(kind, web, value):
    """Whether any value is a sound network of the kind and the web that has no completion."""
    require_deciding(kind)
    if not isinstance(value, Network) or value.kind != kind or web_of(value) != web:
        return False
    return is_sound_network(value) and left_cells(Joins(kind), told_cells(value)) is None


def are_all_told(beside, places):
    """Whether each two of some places are told."""
    for u, v in combinations(places, 2):
        if v not in beside[u]:
            return False
    return True


def fits(beside, ahead, place):
    """Whether the places told with a place, among those ahead of it, are all told with one another."""
    return are_all_told(beside, [u for u in beside[place] if u in ahead])


def last_fitting(beside, ahead, others):
    """One of the others that fits behind all the rest of them and those ahead, or None."""
    for place in others:
        if fits(beside, ahead + others, place):
            return place
    return None


def is_start(beside, ahead):
    """Whether all other places can follow those ahead, in some order, as places of a plan do.

    They are taken from the end. A place that fits there goes on to fit when others are taken, so any one will do.
    """
    others = [place for place in range(len(beside)) if place not in ahead]
    while others:
        last = last_fitting(beside, ahead, others)
        if last is None:
            return False
        others.remove(last)
    return True


def ring_plan(web):
    """The first plan, or None."""
    beside = beside_places(web.places, web.pairs)
    if not is_start(beside, []):
        return None
    found = []
    while len(found) < web.places:
        # All that are left fit behind those that are found; one is wanted behind which the others can follow.
        follows = [
            place for place in range(web.places)
            if place not in found and is_start(beside, found + [place])
        ]
        found.append(follows[0])
    return tuple(found)


def is_plan(web, value):
    """Whether any value is a plan."""
    if not is_row(value, web.places, web.places) or len(set(value)) != web.places:
        return False
    beside = beside_places(web.places, web.pairs)
    for at, place in enumerate(value):
        if not fits(beside, value[:at], place):
            return False
    return True


def completed(network, plan):
    """A completion of a sound network of a kind that glues, place by place of a plan."""
    rows = ()
    for at, place in enumerate(plan):
        known = {}
        for earlier in range(at):
            x = network.between(place, plan[earlier])
            if x is not None:
                known[earlier] = x
        rows = grown(network.kind, rows, known)
    return placed(rows, [plan.index(place) for place in range(network.places)])


def plan_completion(network):
    """Some completion of a sound network whose web has a plan, for any kind that glues."""
    require_gluing(network.kind)
    plan = ring_plan(web_of(network))
    if plan is None:
        raise Refused(0)
    if not is_sound_network(network):
        raise Refused(1)
    return completed(network, plan)


def untold_pairs(web):
    """The pairs of places that are none of the web, ascending."""
    return [pair for pair in all_pairs(web.places) if pair not in web.pairs]


def is_safe_with(web, lengths, further):
    """Whether the web with further pairs has no bare ring of these lengths."""
    return not rings_of_lengths(Web(web.places, web.pairs + further), lengths)


def further_pairs(kind, web):
    """The first of the smallest lots of untold pairs with which the web is safe."""
    require_deciding(kind)
    lengths = risky_lengths(kind, web.places)
    untold = untold_pairs(web)
    for many in range(len(untold)):
        for further in combinations(untold, many):
            if is_safe_with(web, lengths, further):
                return further
    return tuple(untold)


def has_part(further, parts):
    """Whether one of some lots of pairs is a part of a lot."""
    for part in parts:
        if len([pair for pair in part if pair in further]) == len(part):
            return True
    return False


def all_further(kind, web):
    """All lots of untold pairs with which the web is safe, while it is not with any lesser part of them."""
    require_deciding(kind)
    lengths = risky_lengths(kind, web.places)
    untold = untold_pairs(web)
    found = []
    for many in range(len(untold) + 1):
        for further in combinations(untold, many):
            if not has_part(further, found) and is_safe_with(web, lengths, further):
                found.append(further)
    return tuple(sorted(found))
