"""Pairs of places, ascending, the lesser place first: their triangles, and trees that join places along them."""


def beside_places(places, pairs):
    """For each place those that are a pair with it, ascending."""
    found = [[] for _ in range(places)]
    for u, v in pairs:
        found[u].append(v)
        found[v].append(u)
    return found


def triangles_of(places, pairs):
    """All triples of places, each ascending, of which any two are a pair; they come ascending."""
    beside = beside_places(places, pairs)
    known = set(pairs)
    return tuple([(u, v, w) for u, v in pairs for w in beside[v] if w > v and (u, w) in known])


def tree_steps(places, pairs):
    """A dict: each place, and the one from which it is come to along a pair, or None if it is the first of its part.

    The first place of a part is its least one; the others follow behind those that they are come to from.
    """
    beside = beside_places(places, pairs)
    found = {}
    for first in range(places):
        if first in found:
            continue
        found[first] = None
        latest = [first]
        while latest:
            further = []
            for u in latest:
                for v in beside[u]:
                    if v not in found:
                        found[v] = u
                        further.append(v)
            latest = further
    return found


def count_parts(steps):
    """How many parts there are, by what `tree_steps` tells."""
    return len([place for place in steps if steps[place] is None])
