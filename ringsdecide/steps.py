"""Triangle steps: lots of relations for all pairs of places, cut down by third places till nothing changes."""

from ringsdecide.bits import Joins, bits_of, lot_of, turned_bits
from ringsdecide.cells import all_pairs, left_cells
from ringsdecide.fullnets import is_square
from ringsdecide.networks import told_cells
from ringsdecide.ways import is_lot


def are_turned_lots(kind, rows):
    """Whether a square has None for each place and itself, else lots, those read backwards being turned."""
    for u, row in enumerate(rows):
        if row[u] is not None:
            return False
        for v in range(u):
            if not is_lot(kind, row[v]) or not is_lot(kind, rows[v][u]):
                return False
            if turned_bits(kind, bits_of(row[v])) != bits_of(rows[v][u]):
                return False
    return True


def are_lots(kind, value):
    """Whether any value is rows of lots."""
    return is_square(value) and len(value) > 0 and are_turned_lots(kind, value)


def cells_of_lots(lots):
    """The cells of rows of lots."""
    return [[0 if lot is None else bits_of(lot) for lot in row] for row in lots]


def lots_of_cells(cells):
    """The rows of lots of cells."""
    places = range(len(cells))
    return tuple([tuple([None if u == v else lot_of(cells[u][v]) for v in places]) for u in places])


def no_lots(places):
    """Rows of lots without relations."""
    return lots_of_cells([[0] * places for _ in range(places)])


def lots_of(network):
    """The rows of lots in which each told relation stands alone, all relations for the other pairs."""
    return lots_of_cells(told_cells(network))


def stepped_lots(kind, cells):
    """The rows of lots that are left when the cells are cut by steps till none changes anything."""
    left = left_cells(Joins(kind), cells)
    # From one empty lot all others become empty, each by a place of the pair that it belongs to.
    return no_lots(len(cells)) if left is None else lots_of_cells(left)


def stepped(kind, lots):
    """What is left when steps are made till none changes anything."""
    return stepped_lots(kind, cells_of_lots(lots))


def cuts(joins, cells, changed):
    """A dict: each pair whose cell is cut in this round, and what is left; by triangles beside the changed pairs."""
    found = {}
    for u, v in changed:
        for w in range(len(cells)):
            if w in (u, v):
                continue
            for beside, third in ((u, v), (v, u)):
                a, b = min(beside, w), max(beside, w)
                before = found.get((a, b), cells[a][b])
                left = before & joins.of(cells[a][third], cells[third][b])
                if left != before:
                    found[a, b] = left
    return found


def rounds(kind, lots):
    """After how many rounds, in which all lots are cut at once, nothing changes any more."""
    joins = Joins(kind)
    cells = cells_of_lots(lots)
    count = 0
    # Behind the first round a triangle cuts nothing further, unless one of its other pairs was cut in the last one.
    left = cuts(joins, cells, all_pairs(len(cells)))
    while left:
        count += 1
        for u, v in left:
            cells[u][v] = left[u, v]
            cells[v][u] = turned_bits(kind, left[u, v])
        left = cuts(joins, cells, list(left))
    return count
