"""Lots of relations as bits of one number: bit x is set if relation x is in the lot."""


def bits_of(lot):
    """The bits of a sequence of relations."""
    found = 0
    for x in lot:
        found = found | 1 << x
    return found


def lot_of(bits):
    """The lot with these bits, an ascending tuple."""
    return tuple([x for x in range(bits.bit_length()) if bits >> x & 1])


def all_bits(kind):
    """The bits of all relations of a kind."""
    return (1 << kind.relations) - 1


def turned_bits(kind, bits):
    """The bits of these relations, each read in the other direction."""
    return bits_of([kind.turned[x] for x in lot_of(bits)])


def joined_bits(kind, one, other):
    """The bits of all relations from u to w, if bits from u to v and from v to w are left."""
    found = 0
    others = lot_of(other)
    for x in lot_of(one):
        for y in others:
            found = found | kind.bits[x][y]
    return found


class Joins:
    """Joined bits of one kind; a search asks for the same ones again and again, so they are kept."""

    def __init__(self, kind):
        self.kind = kind
        self.known = {}

    def of(self, one, other):
        """`joined_bits` of the kind."""
        key = (one, other)
        if key not in self.known:
            self.known[key] = joined_bits(self.kind, one, other)
        return self.known[key]
