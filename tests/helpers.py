"""What the tests share: kinds to try, and the document's words worked out slowly, without the package's own ways."""

import random
import time
import unittest
from itertools import combinations, permutations, product

from ringsdecide.built import distance_kind, free_kind, level_kind, order_kind, sector_kind, sum_kind
from ringsdecide.kinds import Kind
from ringsdecide.meeting import decides
from ringsdecide.networks import Network
from ringsdecide.webs import Web


class EqualToAll:
    """A value that says it equals everything."""

    def __eq__(self, other):
        return True

    def __ne__(self, other):
        return False

    __hash__ = None


ODD_VALUES = [
    None, True, False, 0.0, 1.0, -1, 7, 10 ** 40, "", "01", b"01", "turned 0", object(), EqualToAll(), {}, {0: 0},
    set(), {0}, frozenset([0]), range(2), (), [], (None,), [[]], ((),), (0,), (True,), (0, 0, True), ((0, 0, 0),),
    [(0, 0, 0)], int, len, Kind, float("nan"), iter([0]),
]


class Case(unittest.TestCase):
    """A test case that can ask for a refusal with its number."""

    def refused(self, error, at, function, *values, **named):
        with self.assertRaises(error) as caught:
            function(*values, **named)
        self.assertIs(type(caught.exception), error)
        self.assertIs(type(caught.exception.at), int)
        self.assertEqual(caught.exception.at, at, (function, values, named))

    def soon(self, function, *values):
        """What is returned, checked to come in some seconds."""
        start = time.perf_counter()
        told = function(*values)
        self.assertLess(time.perf_counter() - start, 10, function)
        return told

    def all_tuples(self, value):
        """Check that nothing within is a list, and that it can be kept."""
        self.assertNotIsInstance(value, (list, dict, set))
        if isinstance(value, tuple):
            for part in value:
                self.all_tuples(part)


def turnings(many):
    """All ways to turn so many relations."""
    return [row for row in permutations(range(many)) if all(row[row[x]] == x for x in range(many))]


def six_readings(turned, triple):
    """The readings of a triple, by putting it on three places."""
    x, y, z = triple
    between = {(0, 1): x, (1, 2): y, (0, 2): z, (1, 0): turned[x], (2, 1): turned[y], (2, 0): turned[z]}
    return {(between[u, v], between[v, w], between[u, w]) for u, v, w in permutations(range(3))}


def reading_groups(turned):
    """All triples, those that are readings of one another in one list."""
    left = set(product(range(len(turned)), repeat=3))
    groups = []
    while left:
        group = six_readings(turned, min(left))
        groups.append(sorted(group))
        left -= group
    return groups


def all_kinds(many):
    """All kinds with so many relations."""
    for turned in turnings(many):
        groups = reading_groups(turned)
        for wanted in product((False, True), repeat=len(groups)):
            yield Kind(turned, [triple for group, want in zip(groups, wanted) if want for triple in group])


def some_kinds(many, count, seed):
    """Some kinds with so many relations, always the same ones; many of them with most triples."""
    chance = random.Random(seed)
    for at in range(count):
        turned = chance.choice(turnings(many))
        if at % 2:
            turned = tuple(range(many))
        share = 1 - chance.random() ** 2
        groups = reading_groups(turned)
        yield Kind(turned, [triple for group in groups if chance.random() < share for triple in group])


def small_kinds():
    """All kinds of one and two relations, and some of three."""
    return list(all_kinds(1)) + list(all_kinds(2)) + list(some_kinds(3, 40, 3))


def stands(kind, rows):
    """Whether all three places of rows have an allowed triple, every reading looked at."""
    allowed = set(kind.triples)
    return all(
        (rows[u][v], rows[v][w], rows[u][w]) in allowed for u, v, w in permutations(range(len(rows)), 3)
    )


def rows_with(kind, places, told):
    """Rows in which a dict of pairs, u less than v, is told."""
    rows = [[None] * places for _ in range(places)]
    for (u, v), x in told.items():
        rows[u][v] = x
        rows[v][u] = kind.turned[x]
    return tuple(tuple(row) for row in rows)


def slow_full_networks(kind, places):
    """All full networks, by trying all relations of all pairs."""
    pairs = list(combinations(range(places), 2))
    found = []
    for relations in product(range(kind.relations), repeat=len(pairs)):
        rows = rows_with(kind, places, dict(zip(pairs, relations)))
        if stands(kind, rows):
            found.append(rows)
    return tuple(sorted(found))


def slow_first_completion(network):
    """The first completion: pair by pair, ascending, each relation tried, without looking ahead."""
    kind, places = network.kind, network.places
    allowed = set(kind.triples)
    pairs = list(combinations(range(places), 2))
    rows = [[None] * places for _ in range(places)]

    def fill(at):
        if at == len(pairs):
            return True
        u, v = pairs[at]
        told = network.between(u, v)
        for x in range(kind.relations) if told is None else (told,):
            if all((rows[w][u], x, rows[w][v]) in allowed for w in range(u)):
                rows[u][v], rows[v][u] = x, kind.turned[x]
                if fill(at + 1):
                    return True
        return False

    return tuple(tuple(row) for row in rows) if fill(0) else None


def with_new_place(kind, rows, extension):
    """Rows with one more place, by the words of the document."""
    places = len(rows)
    told = {(u, v): rows[u][v] for u, v in combinations(range(places), 2)}
    told.update({(u, places): kind.turned[extension[u]] for u in range(places)})
    return rows_with(kind, places + 1, told)


def slow_extensions(kind, rows):
    """All extensions, by trying all relations of the new place."""
    return tuple(
        extension
        for extension in product(range(kind.relations), repeat=len(rows))
        if stands(kind, with_new_place(kind, rows, extension))
    )


def slow_common_lot(kind, one, other):
    """The relations that two new places can have, triple by triple."""
    allowed = set(kind.triples)
    return tuple(
        z for z in range(kind.relations)
        if all((x, kind.turned[y], z) in allowed for x, y in zip(one, other))
    )


def slow_glues_over(kind, places):
    """Whether each two extensions of each full network leave a relation."""
    for rows in slow_full_networks(kind, places):
        found = slow_extensions(kind, rows)
        for one in found:
            for other in found:
                if not slow_common_lot(kind, one, other):
                    return False
    return True


def slow_ends(kind, word):
    """The relations between the ends of a way, as a set, relation by relation."""
    found = {word[0]}
    for y in word[1:]:
        found = {z for x, other, z in kind.triples if x in found and other == y}
    return found


def words_up_to(kind, length):
    """All words with at most so many relations, the shortest ahead, then ascending."""
    for count in range(1, length + 1):
        yield from product(range(kind.relations), repeat=count)


def all_but_threes(many):
    """The kind of [12]: all triples but (x, x, x)."""
    triples = [triple for triple in product(range(many), repeat=3) if len(set(triple)) > 1]
    return Kind(tuple(range(many)), triples)


def slow_completions(network):
    """All completions, ascending: pair by pair, each relation tried, without looking ahead."""
    kind, places = network.kind, network.places
    allowed = set(kind.triples)
    pairs = list(combinations(range(places), 2))
    rows = [[None] * places for _ in range(places)]

    def fill(at):
        if at == len(pairs):
            yield tuple(tuple(row) for row in rows)
            return
        u, v = pairs[at]
        told = network.between(u, v)
        for x in range(kind.relations) if told is None else (told,):
            if all((rows[w][u], x, rows[w][v]) in allowed for w in range(u)):
                rows[u][v], rows[v][u] = x, kind.turned[x]
                yield from fill(at + 1)

    return list(fill(0))


def tried_places(kind):
    """How many places a network of a kind may have, so that all its completions are soon gone through."""
    return 5 if len(slow_completions(Network(kind, 4, []))) < 100 else 4


def slow_possible_rows(network):
    """For each pair the relations of all completions, in rows."""
    found = slow_completions(network)
    places = range(network.places)
    return tuple(
        tuple(None if u == v else tuple(sorted({rows[u][v] for rows in found})) for v in places) for u in places
    )


def slow_ways(network, u, v):
    """All ways of told pairs from u to v, as tuples of places."""
    waiting = [(u,)]
    while waiting:
        way = waiting.pop()
        if way[-1] == v:
            yield way
            continue
        for w in range(network.places):
            if w not in way and network.between(way[-1], w) is not None:
                waiting.append(way + (w,))


def way_word(network, way):
    """The relations told along a way."""
    return tuple(network.between(u, v) for u, v in zip(way, way[1:]))


def slow_rings(network):
    """All rings, each from its least place on, the second place less than the last one; by trying all orders."""
    for many in range(3, network.places + 1):
        for some in combinations(range(network.places), many):
            for rest in permutations(some[1:]):
                ring = some[:1] + rest
                if ring[1] < ring[-1] and all(
                    network.between(ring[at - 1], ring[at]) is not None for at in range(many)
                ):
                    yield ring


def slow_is_bare(network, ring):
    """Whether as many pairs of a ring's places are told as it has neighbours."""
    return sum(network.between(u, v) is not None for u, v in combinations(ring, 2)) == len(ring)


def slow_ring_can(network, ring):
    """Whether the ring by itself has a completion, all relations of all pairs tried."""
    many = len(ring)
    told = [(at, (at + 1) % many, network.between(ring[at], ring[(at + 1) % many])) for at in range(many)]
    return slow_first_completion(Network(network.kind, many, told)) is not None


def some_network(chance, kind, places, share):
    """A network with about this share of the pairs told, each in either order."""
    told = []
    for u, v in combinations(range(places), 2):
        if chance.random() < share:
            told.append((u, v, chance.randrange(kind.relations)) if chance.random() < 0.5 else
                        (v, u, chance.randrange(kind.relations)))
    chance.shuffle(told)
    return Network(kind, places, told)


def part_of(chance, kind, rows, share, wrong=0):
    """A network that tells about this share of the pairs of a full network, so many of them anew."""
    told = [(u, v, rows[u][v]) for u, v in combinations(range(len(rows)), 2) if chance.random() < share]
    for at in chance.sample(range(len(told)), min(wrong, len(told))):
        u, v, _ = told[at]
        told[at] = (u, v, chance.randrange(kind.relations))
    return Network(kind, len(rows), told)


def tree_rows(chance, places, most):
    """The rows of `distance_kind` for 1 to `most`: steps between the places of a tree, at most `most`."""
    steps = {(0, 0): 0}
    for v in range(1, places):
        above = chance.randrange(max(0, v - 3), v)
        for u in range(v):
            steps[u, v] = steps[v, u] = steps[u, above] + 1
        steps[v, v] = 0
    return tuple(
        tuple(None if u == v else min(steps[u, v], most) - 1 for v in range(places)) for u in range(places)
    )


def row_rows(chance, places):
    """The rows of `order_kind` for places in a row, in any order."""
    order = list(range(places))
    chance.shuffle(order)
    return tuple(
        tuple(None if u == v else int(order[u] > order[v]) for v in range(places)) for u in range(places)
    )


def level_rows(places, many):
    """The rows of `level_kind` for places numbered in steps of two: the level that first parts them."""
    return tuple(
        tuple(None if u == v else min((u ^ v).bit_length(), many) - 1 for v in range(places)) for u in range(places)
    )


def clock_rows(chance, places, many):
    """The rows of `sum_kind`: differences of hours."""
    hours = [chance.randrange(many) for _ in range(places)]
    return tuple(
        tuple(None if u == v else (hours[v] - hours[u]) % many for v in range(places)) for u in range(places)
    )


def wide_networks(places, seed):
    """Networks of so many places of deciding kinds: (network, whether it is known to have a completion)."""
    chance = random.Random(seed)
    for many, shares in ((3, (0.05, 1)), (5, (0.2,))):
        kinds = [
            (distance_kind(tuple(range(1, many + 1))), tree_rows(chance, places, many)),
            (level_kind(many), level_rows(places, many)),
            (sum_kind(many), clock_rows(chance, places, many)),
            (order_kind(), row_rows(chance, places)),
        ]
        for kind, rows in kinds:
            for share in shares:
                yield part_of(chance, kind, rows, share), True
                yield part_of(chance, kind, rows, share, 3), None
        yield some_network(chance, free_kind(many), places, 0.5), True
        yield some_network(chance, distance_kind(tuple(range(1, many + 1))), places, 0.08), None


def deciding_kinds():
    """Small kinds that decide, each once: all of one and two relations, some of three and four, and built ones."""
    found = []
    for kind in small_kinds() + list(some_kinds(3, 150, 20)) + list(some_kinds(4, 200, 21)):
        few = kind.relations < 3 or len(kind.triples) < 0.8 * kind.relations ** 3
        if few and decides(kind) and kind not in found:
            found.append(kind)
    return found + [
        order_kind(), level_kind(3), distance_kind((1, 2, 3)), distance_kind((2, 3, 5)), sum_kind(3), sum_kind(4),
        distance_kind((1, 2, 3, 4)), free_kind(3),
    ]


APART_OR_UNMEETING = [
    (all_but_threes(2), 0), (distance_kind((1, 2, 4)), 0), (Kind((0,), []), 0), (sector_kind(3), 1),
    (sector_kind(4), 1),
]


def all_webs(places):
    """All webs with so many places."""
    pairs = list(combinations(range(places), 2))
    for wanted in product((False, True), repeat=len(pairs)):
        yield Web(places, [pair for pair, want in zip(pairs, wanted) if want])


def some_web(chance, places, many):
    """A web with so many pairs, or all there are, each told in either order."""
    pairs = list(combinations(range(places), 2))
    told = chance.sample(pairs, min(many, len(pairs)))
    return Web(places, [pair if chance.random() < 0.5 else pair[::-1] for pair in told])


def ring_web(places):
    """The web of one ring, with no other pairs."""
    return Web(places, [(at, (at + 1) % places) for at in range(places)])


def full_web(places):
    """The web of all pairs."""
    return Web(places, list(combinations(range(places), 2)))


def slow_web_rings(web):
    """All rings of a web, each from its least place on, the second place less than the last; by trying all orders."""
    pairs = set(web.pairs) | {pair[::-1] for pair in web.pairs}
    for many in range(3, web.places + 1):
        for some in combinations(range(web.places), many):
            for rest in permutations(some[1:]):
                ring = some[:1] + rest
                if ring[1] < ring[-1] and all((ring[at - 1], ring[at]) in pairs for at in range(many)):
                    yield ring


def slow_row(web, ring):
    """The row of a ring, step by step."""
    row = [0] * len(web.pairs)
    for u, v in zip(ring, ring[1:] + ring[:1]):
        if u < v:
            row[web.pairs.index((u, v))] += 1
        else:
            row[web.pairs.index((v, u))] -= 1
    return tuple(row)


def weighed(row, telling, modulus):
    """What a row sums to by a telling."""
    return sum(x * y for x, y in zip(row, telling)) % modulus


def slow_even_tellings(web, modulus):
    """All tellings by which all triangles sum to 0, by trying."""
    rows = [slow_row(web, ring) for ring in slow_web_rings(web) if len(ring) == 3]
    for telling in product(range(modulus), repeat=len(web.pairs)):
        if all(weighed(row, telling, modulus) == 0 for row in rows):
            yield telling
