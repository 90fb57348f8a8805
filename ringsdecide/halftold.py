"""Half-told networks: of some pairs a lot of relations is told, one of which holds."""

from ringsdecide.bits import Joins, all_bits, bits_of, lot_of, turned_bits
from ringsdecide.cells import least_rows, left_cells, open_cells
from ringsdecide.errors import InvalidNetwork, Refused
from ringsdecide.fullnets import is_full
from ringsdecide.meeting import require_deciding
from ringsdecide.networks import Network, check_places, way_told
from ringsdecide.rings import leads_from_to
from ringsdecide.steps import lots_of_cells, stepped_lots
from ringsdecide.values import is_below, is_sequence
from ringsdecide.walks import lacking_walk, links_of
from ringsdecide.ways import is_lot, shortest_words

MOST_PLACES = 40


def places_between(words):
    """How many places ways of these words have between their ends."""
    return sum([len(word) - 1 for word in words])


def words_in_common(kind):
    """A dict: the bits that any lots of ways have in common, and words of such lots, with few places between.

    All relations are what no lots have in common.
    """
    words = shortest_words(kind)
    found = {all_bits(kind): ()}
    for bits in words:
        for before in list(found):
            more = found[before] + (words[bits],)
            left = before & bits
            if left not in found or places_between(more) < places_between(found[left]):
                found[left] = more
    return found


def soft_bits(kind):
    """The bits of all soft lots."""
    return [bits for bits in words_in_common(kind) if bits != 0]


def soft_lots(kind):
    """All lots that some lots of ways have in common, and that of all relations, ascending; none is empty."""
    return tuple(sorted([lot_of(bits) for bits in soft_bits(kind)]))


def is_told_lot(kind, soft, places, value):
    """Whether any value is a triple of two unlike places and a soft lot."""
    if not isinstance(value, tuple) or len(value) != 3:
        return False
    u, v, lot = value
    if not is_below(u, places) or not is_below(v, places) or u == v:
        return False
    return is_lot(kind, lot) and bits_of(lot) in soft


def told_lots(kind, places, told):
    """A dict: each told pair, in both orders, and the bits of its lot; any values are refused that tell none."""
    if not is_sequence(told):
        raise InvalidNetwork(1)
    soft = soft_bits(kind)
    found = {}
    for at, entry in enumerate(told):
        if not is_told_lot(kind, soft, places, entry):
            raise InvalidNetwork(1 + at)
        u, v, lot = entry
        if (u, v) in found:
            raise InvalidNetwork(1 + at)
        found[u, v] = bits_of(lot)
        found[v, u] = turned_bits(kind, found[u, v])
    return found


class HalfTold:
    """Soft lots of relations told of some pairs of places; it never changes."""

    def __init__(self, kind, places, told):
        require_deciding(kind)
        check_places(places)
        table = told_lots(kind, places, told)
        self.kind = kind
        self.places = places
        self.told = tuple([(u, v, lot_of(table[u, v])) for u, v in sorted(table) if u < v])

    def __eq__(self, other):
        if not isinstance(other, HalfTold):
            return False
        return self.kind == other.kind and self.places == other.places and self.told == other.told


def half_cells(half):
    """The cells of a half-told network."""
    cells = open_cells(half.kind, half.places)
    for u, v, lot in half.told:
        cells[u][v] = bits_of(lot)
        cells[v][u] = turned_bits(half.kind, cells[u][v])
    return cells


def half_lots(half):
    """The rows of lots of a half-told network."""
    return lots_of_cells(half_cells(half))


def is_half_completion(half, value):
    """Whether any value is a full network of so many places, each told pair of which has a relation of its lot."""
    if not is_full(half.kind, value) or len(value) != half.places:
        return False
    for u, v, lot in half.told:
        if value[u][v] not in lot:
            return False
    return True


def half_possible(half):
    """The rows of lots of all relations that some completion has."""
    return stepped_lots(half.kind, half_cells(half))


def half_filled(half):
    """The completion that comes about if pair by pair the least possible relation is taken."""
    joins = Joins(half.kind)
    cells = left_cells(joins, half_cells(half))
    if cells is None:
        raise Refused(0)
    return least_rows(joins, cells)


def unfolded(half):
    """Some network in which each told lot is what ways of further places leave in common to its two places."""
    words = words_in_common(half.kind)
    told = []
    places = half.places
    for u, v, lot in half.told:
        for word in words[bits_of(lot)]:
            told = told + way_told(word, u, v, places)
            places += len(word) - 1
    if places > MOST_PLACES:
        raise Refused(places)
    return Network(half.kind, places, told)


def half_links(half):
    """The links of told lots."""
    return links_of(half.kind, half.places, [(u, v, bits_of(lot)) for u, v, lot in half.told])


def way_of_lots(half, u, v, x):
    """Some tuple of different places from u to v whose lots, joined one after another, do not have x.

    As in `way_against`, a shortest walk of this sort has no place twice; pairs that are not told are of no use, as
    lots joined with all relations are all of them.
    """
    joins = Joins(half.kind)
    cells = left_cells(joins, half_cells(half))
    if cells is None:
        raise Refused(1)
    if cells[u][v] >> x & 1:
        raise Refused(0)
    return lacking_walk(joins, half_links(half), {(u, v): x})


def is_way_of_lots(half, u, v, x, value):
    """Whether any value is such a tuple of places."""
    if not leads_from_to(half, value, u, v):
        return False
    joins = Joins(half.kind)
    cells = half_cells(half)
    bits = cells[value[0]][value[1]]
    for at in range(2, len(value)):
        bits = joins.of(bits, cells[value[at - 1]][value[at]])
    return not bits >> x & 1
