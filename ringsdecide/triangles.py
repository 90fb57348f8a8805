"""Triangles of webs: rings that they sum to, modulo a number, and tellings that show that they do not."""

from ringsdecide.diagonal import Diagonal
from ringsdecide.errors import InvalidQuestion
from ringsdecide.pairs import tree_steps, triangles_of
from ringsdecide.rings import is_ring
from ringsdecide.values import is_number, is_row
from ringsdecide.webs import plain_network


def check_modulus(modulus):
    """Refuse any value that is no number from 1 on."""
    if not is_number(modulus) or modulus < 1:
        raise InvalidQuestion(0)


def is_web_ring(web, value):
    """Whether any value is a ring of a web."""
    return is_ring(plain_network(web), value)


def check_ring(web, ring):
    """Refuse any value that is no ring of the web."""
    if not is_web_ring(web, ring):
        raise InvalidQuestion(1)


def web_triangles(web):
    """All triples of places, each ascending, of which any two are a pair."""
    return triangles_of(web.places, web.pairs)


def directions(ring):
    """A dict: the pairs along a ring, the lesser place first; 1 where the ring goes on from it, -1 where to it."""
    found = {}
    for at, v in enumerate(ring):
        u = ring[at - 1]
        found[min(u, v), max(u, v)] = 1 if u < v else -1
    return found


def ring_row(web, ring):
    """A number for each pair of the web: 1 or -1, as the ring goes along it, or 0."""
    check_ring(web, ring)
    row = directions(ring)
    return tuple([row.get(pair, 0) for pair in web.pairs])


def loose_pairs(steps, pairs):
    """A dict of the pairs along which `tree_steps` did not go, each with True.

    Trees have no rings, so rows of rings that are alike for the loose pairs are alike for all.
    """
    tree = {(min(v, steps[v]), max(v, steps[v])): True for v in steps if steps[v] is not None}
    return {pair: True for pair in pairs if pair not in tree}


def loose_row(loose, ring):
    """The row of a ring, a dict, as far as the loose pairs go."""
    row = directions(ring)
    return {pair: row[pair] for pair in row if pair in loose}


def diagonal_of(web, loose):
    """The rows of the triangles of a web, as far as its loose pairs go, in diagonal form."""
    return Diagonal([loose_row(loose, triangle) for triangle in web_triangles(web)])


def triangle_sum(web, modulus, ring):
    """None, or how often to take each triangle, so that they sum to the ring modulo the modulus."""
    check_modulus(modulus)
    check_ring(web, ring)
    loose = loose_pairs(tree_steps(web.places, web.pairs), web.pairs)
    found = diagonal_of(web, loose).multiples(modulus, loose_row(loose, ring))
    return None if found is None else tuple(found)


def told_sum(web, modulus, telling, ring):
    """What a ring sums to by a telling, modulo the modulus."""
    row = directions(ring)
    return sum([number * row.get(pair, 0) for pair, number in zip(web.pairs, telling)]) % modulus


def telling_of(web, weights):
    """The telling of these weights, a dict; 0 for all other pairs."""
    return tuple([weights.get(pair, 0) for pair in web.pairs])


def telling_against(web, modulus, ring):
    """None, or some telling by which all triangles sum to 0, but the ring does not."""
    check_modulus(modulus)
    check_ring(web, ring)
    loose = loose_pairs(tree_steps(web.places, web.pairs), web.pairs)
    form = diagonal_of(web, loose)
    column = form.column_against(modulus, loose_row(loose, ring))
    return None if column is None else telling_of(web, form.weights(modulus, column))


def is_triangle_sum(web, modulus, ring, value):
    """Whether any value tells how often to take each triangle, so that they sum to the ring modulo the modulus."""
    check_modulus(modulus)
    check_ring(web, ring)
    triangles = web_triangles(web)
    if not is_row(value, len(triangles), modulus):
        return False
    rest = directions(ring)
    for times, triangle in zip(value, triangles):
        row = directions(triangle)
        for pair in row:
            rest[pair] = rest.get(pair, 0) - times * row[pair]
    return max([entry % modulus for entry in rest.values()]) == 0


def sums_to_zero(web, modulus, telling):
    """Whether all triangles sum to 0 by a telling."""
    told = dict(zip(web.pairs, telling))
    for u, v, w in web_triangles(web):
        if (told[u, v] + told[v, w] - told[u, w]) % modulus != 0:
            return False
    return True


def is_against_ring(web, modulus, ring, value):
    """Whether any value is a telling by which all triangles sum to 0, but the ring does not."""
    if not is_row(value, len(web.pairs), modulus) or not sums_to_zero(web, modulus, value):
        return False
    return told_sum(web, modulus, value, ring) != 0


def is_telling_against(web, modulus, ring, value):
    """Whether any value is a telling by which all triangles sum to 0, but the ring does not; refused as the others."""
    check_modulus(modulus)
    check_ring(web, ring)
    return is_against_ring(web, modulus, ring, value)
