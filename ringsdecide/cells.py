"""Searches for full networks: cells of bits for all pairs of places, cut down in steps, then tried out.

Cell [u][v] holds the relations, as bits, that are left from place u to place v; [v][u] holds the turned ones.
"""

from ringsdecide.bits import all_bits, lot_of


def open_cells(kind, places):
    """Cells with all relations left; those from a place to itself are never looked at."""
    return [[all_bits(kind)] * places for _ in range(places)]


def tell(kind, cells, u, v, x):
    """Leave x alone from u to v."""
    cells[u][v] = 1 << x
    cells[v][u] = 1 << kind.turned[x]


def all_pairs(places):
    """All (u, v), u less than v, ascending."""
    return [(u, v) for u in range(places) for v in range(u + 1, places)]


def tightened(joins, cells, changed):
    """Cut the cells by all triangles beside the changed pairs, and beside those changed thereby.

    Whether no cell has become empty; if one has, the cutting stops there.
    """
    waiting = list(changed)
    while waiting:
        u, v = waiting.pop()
        for w in range(len(cells)):
            if w in (u, v):
                continue
            for a, b, c in ((u, v, w), (v, u, w)):
                left = cells[a][c] & joins.of(cells[a][b], cells[b][c])
                if left == cells[a][c]:
                    continue
                if left == 0:
                    return False
                cells[a][c] = left
                cells[c][a] = cells[c][a] & joins.of(cells[c][b], cells[b][a])
                waiting.append((a, c))
    return True


def is_lost(cells):
    """Whether no relation is left for some pair."""
    for u, v in all_pairs(len(cells)):
        if cells[u][v] == 0:
            return True
    return False


def is_open(bits):
    """Whether more than one relation is left."""
    return bits & (bits - 1) != 0


def first_open(cells):
    """The first pair with more than one relation left, or None."""
    for u, v in all_pairs(len(cells)):
        if is_open(cells[u][v]):
            return (u, v)
    return None


def are_twins(cells, u, v):
    """Whether the cells stay as they are if the two places are exchanged."""
    if cells[u][v] != cells[v][u]:
        return False
    for w in range(len(cells)):
        if w not in (u, v) and cells[u][w] != cells[v][w]:
            return False
    return True


def twin_pairs(cells):
    """For each place that has a twin ahead of it, the pair of the last such one and the place."""
    found = []
    for v in range(len(cells)):
        ahead = [u for u in range(v) if are_twins(cells, u, v)]
        if ahead:
            found.append((ahead[-1], v))
    return found


def is_exchange_less(cells, u, v):
    """Whether rows become less if u and v are exchanged, as far as the relations to them from places ahead tell."""
    for w in range(u):
        if is_open(cells[w][u]) or is_open(cells[w][v]) or cells[w][u] < cells[w][v]:
            return False
        if cells[w][u] > cells[w][v]:
            return True
    return False


def is_exchanged_first(cells, twins):
    """Whether one of the pairs of twins makes rows less, so that these are not the first ones."""
    for u, v in twins:
        if is_exchange_less(cells, u, v):
            return True
    return False


def left_cells(joins, cells):
    """The cells cut by all triangles, or None if one becomes empty."""
    left = [list(row) for row in cells]
    return left if tightened(joins, left, all_pairs(len(left))) else None


def rows_of_cells(cells):
    """The full network in rows, if one relation is left for each pair."""
    places = range(len(cells))
    return tuple([tuple([None if u == v else cells[u][v].bit_length() - 1 for v in places]) for u in places])


def least_rows(joins, cells):
    """The full network in rows that comes about if pair by pair the least relation left is told.

    The cells are cut already, and the kind decides, so that what is left for a pair always leads on to all others.
    """
    left = [list(row) for row in cells]
    for u, v in all_pairs(len(left)):
        if is_open(left[u][v]):
            tell(joins.kind, left, u, v, lot_of(left[u][v])[0])
            tightened(joins, left, [(u, v)])
    return rows_of_cells(left)


def first_fitting(joins, cells):
    """The first full network in rows with relations that the cells leave, or None.

    Pairs are tried in the order in which rows are compared, each with its least relation ahead, so that the first
    one found is the first of all. Twins are only tried in the order that the first one has: without this, places of
    which nothing is told would be tried in all their orders.
    """
    if is_lost(cells):
        return None
    twins = twin_pairs(cells)
    waiting = [([list(row) for row in cells], all_pairs(len(cells)))]
    while waiting:
        trial, changed = waiting.pop()
        if not tightened(joins, trial, changed) or is_exchanged_first(trial, twins):
            continue
        pair = first_open(trial)
        if pair is None:
            return rows_of_cells(trial)
        u, v = pair
        for x in reversed(lot_of(trial[u][v])):
            further = [list(row) for row in trial]
            tell(joins.kind, further, u, v, x)
            waiting.append((further, [pair]))
    return None
