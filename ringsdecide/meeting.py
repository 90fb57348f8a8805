"""Kinds that meet, and kinds that decide."""

from ringsdecide.bits import Joins, all_bits, lot_of
from ringsdecide.errors import NotDeciding
from ringsdecide.gluing import glues, require_gluing
from ringsdecide.ways import check_words, ends_bits, is_word, shortest_words


def common_bits(kind, lots):
    """The bits that all of some bits have in common; all relations, if there are none."""
    left = all_bits(kind)
    for bits in lots:
        left = left & bits
    return left


def meets_all(bits, lots):
    """Whether some bits have one in common with each of others."""
    for other in lots:
        if bits & other == 0:
            return False
    return True


def clash_from(lots, chosen, left, many):
    """Further lots, so that at most so many meet two by two and leave nothing, as a list with the chosen ones, or None.

    Each further one leaves out the least relation that is left, as some lot of a fault has to.
    """
    if left == 0:
        return chosen
    if len(chosen) == many:
        return None
    least = left & -left
    for bits in lots:
        if bits & least == 0 and meets_all(bits, chosen):
            found = clash_from(lots, chosen + [bits], left & bits, many)
            if found is not None:
                return found
    return None


def meeting_fault(kind):
    """None if the kind meets, else as few words as may be whose lots meet two by two, but not all together."""
    words = shortest_words(kind)
    # A lot without relations meets none.
    lots = [bits for bits in words if bits != 0]
    for many in range(3, kind.relations + 1):
        clash = clash_from(lots, [], all_bits(kind), many)
        if clash is not None:
            return tuple([words[bits] for bits in clash])
    return None


def meets(kind):
    """Whether lots of ways that meet two by two always have a relation in common."""
    return meeting_fault(kind) is None


def meet_two_by_two(lots):
    """Whether each two of some bits have one in common."""
    for at, bits in enumerate(lots):
        if not meets_all(bits, lots[:at]):
            return False
    return True


def different_lots(kind, words):
    """A dict: the bits of the ends of words, and the index of the first word that has them; in that order."""
    found = {}
    joins = Joins(kind)
    for at, word in enumerate(words):
        found.setdefault(ends_bits(joins, word), at)
    return found


def are_fault_words(kind, value):
    """Whether any value is a tuple of three or more words, each a tuple."""
    if not isinstance(value, tuple) or len(value) < 3:
        return False
    for word in value:
        if not isinstance(word, tuple) or not is_word(kind, word):
            return False
    return True


def is_meeting_fault(kind, value):
    """Whether any value is a tuple of words whose lots meet two by two, but have no relation in common."""
    if not are_fault_words(kind, value):
        return False
    lots = list(different_lots(kind, value))
    # A lot that is not empty meets itself, so each lot need be looked at only once.
    return 0 not in lots and meet_two_by_two(lots) and common_bits(kind, lots) == 0


def decides(kind):
    """Whether the kind glues and meets."""
    return glues(kind) and meets(kind)


def require_deciding(kind):
    """Refuse a kind that does not glue, or does not meet."""
    require_gluing(kind)
    if not meets(kind):
        raise NotDeciding(1)


def common_of_ways(kind, words):
    """The lot of the relations that are in the ends of all words."""
    check_words(kind, words)
    return lot_of(common_bits(kind, list(different_lots(kind, words))))


def clashing_ways(kind, words):
    """None if the ends of all words have something in common, else the indexes of words none of which can be spared."""
    check_words(kind, words)
    firsts = different_lots(kind, words)
    kept = list(firsts)
    if common_bits(kind, kept) != 0:
        return None
    for bits in list(firsts):
        spared = [other for other in kept if other != bits]
        if common_bits(kind, spared) == 0:
            kept = spared
    return tuple(sorted([firsts[bits] for bits in kept]))
