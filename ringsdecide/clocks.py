"""Clocks: for which numbers of hours a web is sound, and what its rings are as sums of triangles."""

from math import gcd, lcm

from ringsdecide.errors import InvalidQuestion
from ringsdecide.pairs import tree_steps
from ringsdecide.triangles import (
    check_modulus, diagonal_of, is_against_ring, is_web_ring, loose_pairs, telling_of,
)
from ringsdecide.values import is_number
from ringsdecide.webs import Web


def ring_orders(web):
    """For each loose pair of the web its order in the diagonal form of the triangles: 0 if no triangles bind it.

    A telling can be 0 on the trees, up to heights of the places; what is left of it is a number for each of these,
    the order times which is 0.
    """
    loose = loose_pairs(tree_steps(web.places, web.pairs), web.pairs)
    form = diagonal_of(web, loose)
    return [form.order(pair) for pair in loose]


def is_sound(web, modulus):
    """Whether all rings sum to 0 by each telling by which all triangles do."""
    check_modulus(modulus)
    for order in ring_orders(web):
        if gcd(order, modulus) != 1:
            return False
    return True


def way_up(steps, place):
    """The places from this one to the first one of its part, by what `tree_steps` tells."""
    found = []
    while place is not None:
        found.append(place)
        place = steps[place]
    return found


def ring_along(steps, u, v):
    """The ring that a loose pair makes with the trees: from u to where the ways up meet, on to v, and back."""
    up = way_up(steps, u)
    other = way_up(steps, v)
    shared = [place for place in up if place in other]
    ahead = [place for place in up if place not in other]
    behind = [place for place in other if place not in up]
    return tuple(ahead + shared[:1] + behind[::-1])


def unsound(web, modulus):
    """None, or some (telling, ring): by the telling all triangles sum to 0, but the ring does not."""
    check_modulus(modulus)
    steps = tree_steps(web.places, web.pairs)
    loose = loose_pairs(steps, web.pairs)
    form = diagonal_of(web, loose)
    for column in loose:
        if gcd(form.order(column), modulus) != 1:
            weights = form.weights(modulus, column)
            wrong = [pair for pair in loose if weights.get(pair, 0) != 0]
            u, v = wrong[0]
            # The telling is 0 along the trees, so this ring sums to what is told of its loose pair.
            return (telling_of(web, weights), ring_along(steps, u, v))
    return None


def is_unsound(web, modulus, value):
    """Whether any value is such a pair of a telling and a ring."""
    check_modulus(modulus)
    if not isinstance(value, tuple) or len(value) != 2:
        return False
    telling, ring = value
    return is_web_ring(web, ring) and is_against_ring(web, modulus, ring, telling)


def count_tellings(web, modulus):
    """By how many tellings all triangles sum to 0."""
    check_modulus(modulus)
    orders = ring_orders(web)
    found = 1
    for order in orders:
        found = found * gcd(order, modulus)
    for _ in range(len(web.pairs) - len(orders)):
        found = found * modulus
    return found


def is_prime(value):
    """Whether any value is a prime number."""
    if not is_number(value) or value < 2:
        return False
    divisor = 2
    while divisor * divisor <= value:
        if value % divisor == 0:
            return False
        divisor += 1
    return True


def triangle_rank(web, prime):
    """The greatest number of triangles none of whose rows is a sum of multiples of the others modulo the prime."""
    if not is_prime(prime):
        raise InvalidQuestion(0)
    return len([order for order in ring_orders(web) if order % prime != 0])


def chained(orders):
    """Numbers from 2 on, each of which divides the next one, for which the same is counted as for these."""
    found = list(orders)
    for at in range(len(found)):
        for further in range(at + 1, len(found)):
            one, other = found[at], found[further]
            found[at] = gcd(one, other)
            found[further] = lcm(one, other)
    return tuple([order for order in found if order > 1])


def ring_group(web):
    """The pair (free, factors) that tells how many tellings there are for each modulus."""
    orders = ring_orders(web)
    return (len([order for order in orders if order == 0]), chained([order for order in orders if order > 1]))


def wound_web(length, rounds):
    """An inner ring, an outer one that goes around it so many times, and a hub of the outer one."""
    outer = length * rounds
    hub = length + outer
    pairs = [(at, (at + 1) % length) for at in range(length)]
    for at in range(outer):
        pairs.append((length + at, length + (at + 1) % outer))
        pairs.append((length + at, hub))
        pairs.append((length + at, at % length))
        pairs.append((length + at, (at + 1) % length))
    return Web(hub + 1, pairs)


def beside(one, other):
    """The web of both, the last place of the one being also place 0 of the other."""
    more = one.places - 1
    return Web(more + other.places, one.pairs + tuple([(u + more, v + more) for u, v in other.pairs]))
