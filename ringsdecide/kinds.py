"""Kinds: relations, how they are turned, and which of them may stand together on three places."""

from itertools import permutations

from ringsdecide.bits import lot_of
from ringsdecide.errors import InvalidKind
from ringsdecide.values import is_below, is_sequence, is_triple


def check_turned(turned):
    """Refuse any value that does not turn relations, turned twice each being itself."""
    if not is_sequence(turned) or len(turned) == 0:
        raise InvalidKind(0)
    many = len(turned)
    for x, back in enumerate(turned):
        if not is_below(back, many):
            raise InvalidKind(x)
        if not is_below(turned[back], many) or turned[back] != x:
            raise InvalidKind(x)


def check_triples(triples, many):
    """Refuse any value that is no sequence of triples of so many relations."""
    if not is_sequence(triples):
        raise InvalidKind(many)
    for at, triple in enumerate(triples):
        if not is_triple(triple, many):
            raise InvalidKind(many + at)


def lacking_reading(turned, triples):
    """The index of the first triple that has a reading which is not among them, or None."""
    known = set(triples)
    for at, triple in enumerate(triples):
        for reading in readings(turned, triple):
            if reading not in known:
                return at
    return None


def bits_table(many, triples):
    """Rows of bits: bit z of entry y of row x tells whether (x, y, z) is among the triples."""
    table = [[0] * many for _ in range(many)]
    for x, y, z in triples:
        table[x][y] = table[x][y] | 1 << z
    return tuple([tuple(row) for row in table])


class Kind:
    """Relations, and which three of them may stand together; it never changes."""

    def __init__(self, turned, triples):
        check_turned(turned)
        check_triples(triples, len(turned))
        lacking = lacking_reading(turned, triples)
        if lacking is not None:
            raise InvalidKind(len(turned) + lacking)
        self.relations = len(turned)
        self.turned = tuple(turned)
        self.triples = tuple(sorted(set(triples)))
        # All questions about triples are answered from this table.
        self.bits = bits_table(self.relations, self.triples)

    def __eq__(self, other):
        return isinstance(other, Kind) and self.turned == other.turned and self.triples == other.triples


def readings(turned, triple):
    """All readings of a triple, ascending: its three places read in the six orders."""
    x, y, z = triple
    back_x, back_y, back_z = turned[x], turned[y], turned[z]
    found = [
        (x, y, z),
        (z, back_y, x),
        (back_x, z, y),
        (y, back_z, back_x),
        (back_z, x, back_y),
        (back_y, back_x, back_z),
    ]
    return tuple(sorted(set(found)))


def together(kind, x, y):
    """The lot of all z such that (x, y, z) is among the triples."""
    return lot_of(kind.bits[x][y])


def is_allowed(kind, x, y, z):
    """Whether (x, y, z) is among the triples."""
    return kind.bits[x][y] >> z & 1 == 1


def check_names(names, many):
    """Refuse any value that does not have each of so many relations once."""
    if not is_sequence(names):
        raise InvalidKind(many)
    seen = set()
    for at, name in enumerate(names):
        if not is_below(name, many) or name in seen:
            raise InvalidKind(at)
        seen.add(name)
    if len(names) < many:
        raise InvalidKind(many)


def renamed(kind, names):
    """The kind in which relation x is called names[x]."""
    check_names(names, kind.relations)
    turned = [0] * kind.relations
    for x, back in enumerate(kind.turned):
        turned[names[x]] = names[back]
    return Kind(turned, [(names[x], names[y], names[z]) for x, y, z in kind.triples])


def makes(one, names, other):
    """Whether the one kind, so renamed, is the other one, which has as many relations and triples."""
    for x, back in enumerate(one.turned):
        if other.turned[names[x]] != names[back]:
            return False
    for x, y, z in one.triples:
        if not is_allowed(other, names[x], names[y], names[z]):
            return False
    return True


def likeness(one, other):
    """The first names by which the one kind is renamed to the other, or None."""
    if one.relations != other.relations or len(one.triples) != len(other.triples):
        return None
    for names in permutations(range(one.relations)):
        if makes(one, names, other):
            return names
    return None


def symmetries(kind):
    """All names, ascending, that leave the kind as it is."""
    return tuple([names for names in permutations(range(kind.relations)) if makes(kind, names, kind)])
