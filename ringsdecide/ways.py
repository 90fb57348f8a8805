"""Words of relations along ways: which relations they leave to their two ends."""

from ringsdecide.bits import Joins, bits_of, joined_bits, lot_of
from ringsdecide.errors import InvalidWord, Refused
from ringsdecide.gluing import glued, grown, require_gluing
from ringsdecide.values import are_below, is_below, is_sequence


def is_word(kind, value):
    """Whether any value is a word."""
    return is_sequence(value) and len(value) > 0 and are_below(value, kind.relations)


def check_word(kind, word):
    """Refuse any value that is no word."""
    if not is_sequence(word) or len(word) == 0:
        raise InvalidWord(0)
    for at, x in enumerate(word):
        if not is_below(x, kind.relations):
            raise InvalidWord(at)


def check_words(kind, words):
    """Refuse any value that is no sequence of one or more words."""
    if not is_sequence(words) or len(words) == 0:
        raise InvalidWord(0)
    for at, word in enumerate(words):
        if not is_word(kind, word):
            raise InvalidWord(at)


def joined(kind, one, other):
    """The lot of all relations from u to w, if these lots are left from u to v and from v to w."""
    return lot_of(joined_bits(kind, bits_of(one), bits_of(other)))


def ends_bits(joins, word):
    """The bits of the `ends` of a word."""
    found = 1 << word[0]
    for at in range(1, len(word)):
        found = joins.of(found, 1 << word[at])
    return found


def ends(kind, word):
    """The lot of the relations that a word leaves to the two ends of its way."""
    check_word(kind, word)
    return lot_of(ends_bits(Joins(kind), word))


def closes(kind, word):
    """Whether the last relation of a word, turned, is in the ends of the others: so a ring of this word can close.

    A word that does not close has no full network, for every kind; one that does has some if the kind glues.
    """
    return ends_bits(Joins(kind), word[:-1]) >> kind.turned[word[-1]] & 1 == 1


def shortest_words(kind):
    """A dict: the bits of the ends of any word, and the first of the shortest words that have them.

    Words are lengthened in order, the shortest and least ones ahead, so the first word that comes to a lot is the
    one to keep; and its part without the last relation is the one that is kept for the lot of that part.
    """
    found = {}
    latest = []
    for x in range(kind.relations):
        found[1 << x] = (x,)
        latest.append(1 << x)
    while latest:
        further = []
        for bits in latest:
            for x in range(kind.relations):
                longer = joined_bits(kind, bits, 1 << x)
                if longer not in found:
                    found[longer] = found[bits] + (x,)
                    further.append(longer)
        latest = further
    return found


def way_lots(kind):
    """The ends of all words, ascending."""
    return tuple(sorted([lot_of(bits) for bits in shortest_words(kind)]))


def is_lot(kind, value):
    """Whether any value is a lot of relations: an ascending tuple."""
    return isinstance(value, tuple) and are_below(value, kind.relations) and lot_of(bits_of(value)) == value


def word_of(kind, lot):
    """The first of the shortest words with this lot, or None."""
    if not is_lot(kind, lot):
        return None
    return shortest_words(kind).get(bits_of(lot))


def starts_of(kind, word):
    """The bits of the ends of the words that the first one, two, .. relations are."""
    found = [1 << word[0]]
    for at in range(1, len(word)):
        found.append(joined_bits(kind, found[-1], 1 << word[at]))
    return found


def first_before(kind, bits, step, x):
    """The least relation of these from which the relation `step` can lead on to x."""
    for y in lot_of(bits):
        if kind.bits[y][step] >> x & 1:
            return y
    return None


def from_first_place(kind, word, relation):
    """Relations from the first place of a way to its second, third, .. one, the last being told."""
    starts = starts_of(kind, word)
    found = [relation]
    for at in range(len(word) - 1, 0, -1):
        found.append(first_before(kind, starts[at - 1], word[at], found[-1]))
    return found[::-1]


def way_rows(kind, word, relation):
    """`way_network` for a kind that glues, a word, and a relation that is in its ends."""
    reached = from_first_place(kind, word, relation)
    rows = ((None, word[0]), (kind.turned[word[0]], None))
    for at in range(1, len(word)):
        rows = grown(kind, rows, {0: kind.turned[reached[at]], at: kind.turned[word[at]]})
    return rows


def is_end(kind, word, relation):
    """Whether any value is a relation in the ends of a word."""
    return is_below(relation, kind.relations) and ends_bits(Joins(kind), word) >> relation & 1 == 1


def way_network(kind, word, relation):
    """Some full network with a way of this word, whose ends have this relation."""
    check_word(kind, word)
    require_gluing(kind)
    if not is_end(kind, word, relation):
        raise Refused(0)
    return way_rows(kind, word, relation)


def placed(rows, order):
    """The same full network, its places named anew: place order[0] comes first, and so on."""
    return tuple([tuple([rows[u][v] for v in order]) for u in order])


def ends_first(rows):
    """The rows of a way with its last place told second, behind the first one."""
    last = len(rows) - 1
    return placed(rows, [0, last] + list(range(1, last)))


def ways_network(kind, words, relation):
    """Some full network with a way of each word from place 0 to the last place, whose ends have this relation."""
    check_words(kind, words)
    require_gluing(kind)
    for at, word in enumerate(words):
        if not is_end(kind, word, relation):
            raise Refused(at)
    rows = ((None, relation), (kind.turned[relation], None))
    for word in words:
        rows = glued(kind, rows, ends_first(way_rows(kind, word, relation)), 2)
    return placed(rows, [0] + list(range(2, len(rows))) + [1])
