"""Kinds that glue: any two full networks that agree on the places that they share are parts of one."""

from ringsdecide.bits import Joins, all_bits
from ringsdecide.cells import first_fitting, open_cells, tell
from ringsdecide.errors import NotDeciding, Refused
from ringsdecide.fullnets import common_lot, extended, is_extension, is_full


def cells_between(kind, one, other):
    """Cells for places to which two new places have these relations, cut by the triangles of the new ones."""
    places = range(len(one))
    back_one = [kind.turned[x] for x in one]
    back_other = [kind.turned[x] for x in other]
    return [[kind.bits[back_one[u]][one[v]] & kind.bits[back_other[u]][other[v]] for v in places] for u in places]


def next_pairs(kind, left, is_last):
    """All (x, y, rest): the relations x and y from the two new places to a further one leave the rest of `left`.

    The least relation left has to go, and all of them at the last place.
    """
    found = []
    barred = left if is_last else left & -left
    for x in range(kind.relations):
        for y in range(kind.relations):
            bits = kind.bits[x][kind.turned[y]]
            if bits & barred == 0:
                found.append((x, y, left & bits))
    return found


def fault_from(joins, one, other, left, places):
    """A fault over so many places, the first ones having these relations to the two new places, or None.

    A fault that there is can be told so that each place leaves out the least relation that is still left, as long
    as one is; so no other places are tried.
    """
    rows = first_fitting(joins, cells_between(joins.kind, one, other))
    if rows is None:
        return None
    if len(one) == places:
        return (rows, one, other) if left == 0 else None
    for x, y, rest in next_pairs(joins.kind, left, len(one) + 1 == places):
        found = fault_from(joins, one + (x,), other + (y,), rest, places)
        if found is not None:
            return found
    return None


def fault_over(kind, places):
    """Some fault with just so many places, or None."""
    return fault_from(Joins(kind), (), (), all_bits(kind), places)


def glues_over(kind, places):
    """Whether any two extensions of any full network of so many places leave a relation for the new places."""
    return fault_over(kind, places) is None


def gluing_fault(kind):
    """None if the kind glues, else a fault with as few places as may be."""
    for places in range(1, kind.relations + 1):
        fault = fault_over(kind, places)
        if fault is not None:
            return fault
    return None


def glues(kind):
    """Whether the kind glues over any number of places."""
    return gluing_fault(kind) is None


def require_gluing(kind):
    """Refuse a kind that does not glue."""
    if not glues(kind):
        raise NotDeciding(0)


def is_gluing_fault(kind, value):
    """Whether any value is a fault of the kind, with however many places."""
    if not isinstance(value, tuple) or len(value) != 3:
        return False
    rows, one, other = value
    if not is_full(kind, rows) or not is_extension(kind, rows, one) or not is_extension(kind, rows, other):
        return False
    return common_lot(kind, one, other) == ()


def grown(kind, rows, known):
    """The full network with a new place that has the known relations, a dict by places; the kind has to glue.

    What is known is an extension of the full network of the known places alone. The other places join them one by
    one; gluing leaves a relation to each.
    """
    relations = dict(known)
    for place in range(len(rows)):
        if place not in relations:
            settled = list(relations)
            lot = common_lot(kind, [relations[u] for u in settled], [rows[place][u] for u in settled])
            relations[place] = lot[0]
    return extended(kind, rows, [relations[u] for u in range(len(rows))])


def check_shared(one, other, shared):
    """Refuse two full networks whose first places, so many of them, are not alike."""
    if len(one) < shared or len(other) < shared:
        raise Refused(0)
    if [row[:shared] for row in one[:shared]] != [row[:shared] for row in other[:shared]]:
        raise Refused(0)


def place_in_all(one, shared, place):
    """The place that a place of the other network has when both are one."""
    return place if place < shared else len(one) - shared + place


def glued(kind, one, other, shared):
    """`glue` for a kind that glues and networks that agree."""
    rows = one
    for place in range(shared, len(other)):
        known = {place_in_all(one, shared, u): other[place][u] for u in range(place)}
        rows = grown(kind, rows, known)
    return rows


def glue(kind, one, other, shared):
    """Some full network of which both are parts that share their first places."""
    check_shared(one, other, shared)
    require_gluing(kind)
    return glued(kind, one, other, shared)


def can_glue(kind, one, other, shared):
    """Whether there is a full network of which both are parts that share their first places, for any kind."""
    check_shared(one, other, shared)
    cells = open_cells(kind, len(one) + len(other) - shared)
    for v in range(len(one)):
        for u in range(v):
            tell(kind, cells, u, v, one[u][v])
    for v in range(len(other)):
        for u in range(v):
            tell(kind, cells, place_in_all(one, shared, u), place_in_all(one, shared, v), other[u][v])
    return first_fitting(Joins(kind), cells) is not None
