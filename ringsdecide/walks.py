"""Walks along links, and what their lots, joined one after another, leave to the two ends.

A walk may come to a place again. Links tell for each place the places beside it, each with the bits of a lot.
"""

from ringsdecide.bits import all_bits, turned_bits


def links_of(kind, places, told):
    """The links of so many places, from triples of two places and the bits of the lot told of them."""
    found = [[] for _ in range(places)]
    for u, v, bits in told:
        found[u].append((v, bits))
        found[v].append((u, turned_bits(kind, bits)))
    return found


def first_steps(links, starts):
    """A dict of all states after one step: the start, the place come to, the bits left to both; each with None."""
    found = {}
    for start in starts:
        for place, bits in links[start]:
            found[start, place, bits] = None
    return found


def further_steps(joins, links, latest, known):
    """The states one step further that are not known yet; each is made known, with the state that it comes from."""
    found = []
    for state in latest:
        start, place, bits = state
        for other, lot in links[place]:
            left = joins.of(bits, lot)
            # For a kind that glues all relations stay all of them, whatever follows.
            if other == start or left == all_bits(joins.kind) or (start, other, left) in known:
                continue
            known[start, other, left] = state
            found.append((start, other, left))
    return found


def walked_places(known, state):
    """The places of the walk that comes to a state, in order."""
    found = []
    at = state
    while at is not None:
        found.append(at[1])
        at = known[at]
    return (state[0],) + tuple(found[::-1])


def is_lacking(targets, state):
    """Whether a state lacks the relation that the targets tell of its start and its place."""
    start, place, bits = state
    x = targets.get((start, place))
    return x is not None and not bits >> x & 1


def lacking_walk(joins, links, targets):
    """The places of a shortest walk that does not leave to its two ends what the targets tell of them, or None.

    The targets are a dict: two unlike places, and a relation from the one to the other. The kind has to glue.
    """
    known = first_steps(links, sorted(set([u for u, _ in targets])))
    latest = list(known)
    while latest:
        for state in latest:
            if is_lacking(targets, state):
                return walked_places(known, state)
        latest = further_steps(joins, links, latest, known)
    return None
