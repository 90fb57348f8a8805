"""How far rings have to be looked at, for kinds that glue: which lengths are risky, and bad rounds."""

from ringsdecide.bits import Joins, all_bits, joined_bits, lot_of
from ringsdecide.errors import Refused
from ringsdecide.gluing import require_gluing
from ringsdecide.kinds import is_allowed
from ringsdecide.values import are_below
from ringsdecide.ways import closes, ends_bits, is_word, shortest_words


def lots_in_turn(kind):
    """The bits of all lots of words of one relation, of two, .. each ascending, and the index that comes next.

    The lots of longer words tell those of words longer by one, so what comes again goes on as before.
    """
    found = []
    seen = {}
    lots = tuple(sorted([1 << x for x in range(kind.relations)]))
    while lots not in seen:
        seen[lots] = len(found)
        found.append(lots)
        longer = [joined_bits(kind, bits, 1 << x) for bits in lots for x in range(kind.relations)]
        lots = tuple(sorted(set(longer)))
    return found, seen[lots]


def at_count(turns, count):
    """The bits of all lots of words of so many relations, from what `lots_in_turn` tells."""
    found, start = turns
    at = count - 1
    if at >= len(found):
        at = start + (at - start) % (len(found) - start)
    return found[at]


def is_risky_length(kind, turns, length):
    """Whether some word with one relation less than the length has other ends than all."""
    return at_count(turns, length - 1) != (all_bits(kind),)


def reach(kind):
    """The greatest risky length; 2 if there is none, None if all are risky."""
    require_gluing(kind)
    turns = lots_in_turn(kind)
    found, _ = turns
    # A length behind these comes again, and if any is not risky, neither is any longer one.
    for length in range(3, len(found) + 3):
        if not is_risky_length(kind, turns, length):
            return length - 1
    return None


def is_risky(kind, length):
    """Whether some round of so many relations is bad."""
    require_gluing(kind)
    return is_risky_length(kind, lots_in_turn(kind), length)


def lots_after(kind, count):
    """All lots that are ends of words of so many relations, ascending."""
    require_gluing(kind)
    return tuple(sorted([lot_of(bits) for bits in at_count(lots_in_turn(kind), count)]))


def repeats(kind):
    """The least (start, period) from which on lots of words come again, the least period ahead."""
    require_gluing(kind)
    found, start = lots_in_turn(kind)
    return (start + 1, len(found) - start)


def longer_words(joins, lots):
    """A dict: lots other than all of words longer by one relation; the lot before, and the relation put behind."""
    found = {}
    for bits in lots:
        for x in range(joins.kind.relations):
            left = joins.of(bits, 1 << x)
            if left != all_bits(joins.kind):
                found.setdefault(left, (bits, x))
    return found


def bad_round(kind, length):
    """Some bad round of so many relations."""
    require_gluing(kind)
    joins = Joins(kind)
    layers = [{1 << x: (0, x) for x in range(kind.relations)}]
    for _ in range(length - 2):
        layers.append(longer_words(joins, layers[-1]))
    if not layers[-1]:
        raise Refused(0)
    bits = min(layers[-1])
    # The last relation, turned, is one that the ends of the others lack.
    found = [kind.turned[lot_of(all_bits(kind) - bits)[0]]]
    for layer in layers[::-1]:
        bits, x = layer[bits]
        found.append(x)
    return tuple(found[::-1])


def is_bad_round(kind, value):
    """Whether any value is a bad round."""
    require_gluing(kind)
    if not isinstance(value, tuple) or len(value) < 3 or not are_below(value, kind.relations):
        return False
    return not closes(kind, value)


def word_back(joins, bits):
    """A shortest word, not empty, that put behind a word of this lot leads to the same lot, or None."""
    seen = set()
    latest = [(bits, ())]
    while latest:
        further = []
        for before, word in latest:
            for x in range(joins.kind.relations):
                left = joins.of(before, 1 << x)
                if left == bits:
                    return word + (x,)
                if left not in seen:
                    seen.add(left)
                    further.append((left, word + (x,)))
        latest = further
    return None


def endless(kind):
    """None if the reach is a number, else some (head, more): the ends stay the same, not all, if more is put behind."""
    require_gluing(kind)
    joins = Joins(kind)
    words = shortest_words(kind)
    for bits in words:
        if bits != all_bits(kind):
            more = word_back(joins, bits)
            if more is not None:
                return (words[bits], more)
    return None


def is_endless(kind, value):
    """Whether any value is a pair of words, the second of which changes nothing behind the first; not all ends."""
    require_gluing(kind)
    if not isinstance(value, tuple) or len(value) != 2:
        return False
    for word in value:
        if not isinstance(word, tuple) or not is_word(kind, word):
            return False
    head, more = value
    joins = Joins(kind)
    before = ends_bits(joins, head)
    return before != all_bits(kind) and ends_bits(joins, head + more) == before


def is_lasting(kind, x):
    """Whether no word x, x, .. has the ends all."""
    seen = set()
    bits = 1 << x
    while bits not in seen:
        seen.add(bits)
        bits = joined_bits(kind, bits, 1 << x)
    return all_bits(kind) not in seen


def lasting(kind):
    """All relations x such that no word x, x, .. however long, has the ends all."""
    require_gluing(kind)
    return tuple([x for x in range(kind.relations) if is_lasting(kind, x)])


def is_far(kind, f):
    """Whether f goes with any relation x and f again."""
    for x in range(kind.relations):
        if not is_allowed(kind, x, f, f):
            return False
    return True


def far_relations(kind):
    """The lot of all relations f such that f is in `together(kind, x, f)`, for all x."""
    require_gluing(kind)
    return tuple([f for f in range(kind.relations) if is_far(kind, f)])
