"""Told relations that follow from others, and networks with the same completions; all of deciding kinds."""

from ringsdecide.bits import Joins
from ringsdecide.cells import left_cells, open_cells, tell
from ringsdecide.errors import Refused
from ringsdecide.meeting import require_deciding
from ringsdecide.networks import told_cells
from ringsdecide.steps import stepped_lots


def follows(joins, places, others, triple):
    """Whether a told triple follows from others; together they have a completion."""
    cells = open_cells(joins.kind, places)
    for u, v, x in others:
        tell(joins.kind, cells, u, v, x)
    u, v, x = triple
    return left_cells(joins, cells)[u][v] == 1 << x


def require_completion(joins, network):
    """Refuse a network without a completion."""
    require_deciding(network.kind)
    if left_cells(joins, told_cells(network)) is None:
        raise Refused(0)


def without(told, triple):
    """The told triples but this one."""
    return [other for other in told if other != triple]


def needless(network):
    """All told triples that follow from all the other told ones."""
    joins = Joins(network.kind)
    require_completion(joins, network)
    told = network.told
    return tuple([triple for triple in told if follows(joins, network.places, without(told, triple), triple)])


def core(network):
    """Some told triples from which all others follow, none of which follows from the others among them."""
    joins = Joins(network.kind)
    require_completion(joins, network)
    kept = list(network.told)
    for triple in network.told:
        others = without(kept, triple)
        if follows(joins, network.places, others, triple):
            kept = others
    return tuple(kept)


def same_completions(one, other):
    """Whether two networks of one kind have the same completions, perhaps none."""
    require_deciding(one.kind)
    require_deciding(other.kind)
    if one.kind != other.kind or one.places != other.places:
        raise Refused(0)
    return stepped_lots(one.kind, told_cells(one)) == stepped_lots(other.kind, told_cells(other))
