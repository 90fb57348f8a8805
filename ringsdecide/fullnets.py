"""Full networks in rows, and one place more."""

from ringsdecide.bits import Joins, all_bits, lot_of
from ringsdecide.kinds import is_allowed
from ringsdecide.values import is_below, is_row


def is_square(value):
    """Whether any value is a tuple of n tuples of n things."""
    if not isinstance(value, tuple):
        return False
    for row in value:
        if not isinstance(row, tuple) or len(row) != len(value):
            return False
    return True


def are_turned(kind, rows):
    """Whether a square has None for each place and itself, else relations, those read backwards being turned."""
    for u, row in enumerate(rows):
        if row[u] is not None:
            return False
        for v in range(u):
            if not is_below(row[v], kind.relations) or not is_below(rows[v][u], kind.relations):
                return False
            if rows[v][u] != kind.turned[row[v]]:
                return False
    return True


def are_triangles_allowed(kind, rows):
    """Whether the triples of any three places are allowed; one reading of each will do."""
    for v, row in enumerate(rows):
        for u in range(v):
            for w in range(v + 1, len(rows)):
                if not is_allowed(kind, rows[u][v], row[w], rows[u][w]):
                    return False
    return True


def is_full(kind, value):
    """Whether any value is a full network in rows."""
    return is_square(value) and are_turned(kind, value) and are_triangles_allowed(kind, value)


def full_networks(kind, places):
    """All full networks with so many places, ascending."""
    found = [()]
    for _ in range(places):
        found = [extended(kind, rows, extension) for rows in found for extension in extensions(kind, rows)]
    return tuple(sorted(found))


def first_undecided(lots):
    """The index of the first of some bits with more than one relation, or None."""
    for at, bits in enumerate(lots):
        if bits & (bits - 1):
            return at
    return None


def narrowed(joins, rows, lots, changed):
    """Cut the relations left from a new place by the triangles beside the changed places, and so on.

    Whether none has become empty; if one has, the cutting stops there.
    """
    waiting = list(changed)
    while waiting:
        u = waiting.pop()
        for v in range(len(rows)):
            if u == v:
                continue
            left = lots[v] & joins.of(lots[u], 1 << rows[u][v])
            if left == 0:
                return False
            if left != lots[v]:
                lots[v] = left
                waiting.append(v)
    return True


def extensions(kind, rows):
    """All extensions of a full network, ascending."""
    joins = Joins(kind)
    found = []
    waiting = [([all_bits(kind)] * len(rows), list(range(len(rows))))]
    while waiting:
        lots, changed = waiting.pop()
        if not narrowed(joins, rows, lots, changed):
            continue
        at = first_undecided(lots)
        if at is None:
            found.append(tuple([bits.bit_length() - 1 for bits in lots]))
            continue
        # What is put on last is taken up first, so the extensions come out ascending.
        for x in reversed(lot_of(lots[at])):
            waiting.append((lots[:at] + [1 << x] + lots[at + 1:], [at]))
    return tuple(found)


def extended(kind, rows, extension):
    """The full network in rows with the new place, which comes last."""
    found = [row + (kind.turned[extension[u]],) for u, row in enumerate(rows)]
    return tuple(found) + (tuple(extension) + (None,),)


def common_lot(kind, one, other):
    """The lot of all relations that two places can have, which have these relations to the same places."""
    left = all_bits(kind)
    for x, y in zip(one, other):
        left = left & kind.bits[x][kind.turned[y]]
    return lot_of(left)


def is_extension(kind, rows, value):
    """Whether any value is an extension of a full network in rows."""
    if not is_row(value, len(rows), kind.relations):
        return False
    for v, row in enumerate(rows):
        for u in range(v):
            if not is_allowed(kind, value[u], rows[u][v], value[v]):
                return False
    return True
