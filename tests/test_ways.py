"""[14], [15], [16]: ends of words, lots of ways, networks of ways."""

import unittest
from itertools import product

from ringsdecide.built import distance_kind, free_kind, level_kind, order_kind, sector_kind, sum_kind
from ringsdecide.errors import InvalidWord, NotDeciding, Refused
from ringsdecide.fullnets import full_networks, is_full
from ringsdecide.gluing import glues, glues_over
from ringsdecide.kinds import Kind
from ringsdecide.ways import ends, joined, way_lots, way_network, ways_network, word_of
from tests.helpers import (
    ODD_VALUES, Case, EqualToAll, all_but_threes, all_kinds, slow_ends, small_kinds, some_kinds, words_up_to,
)

GLUING = [free_kind(2), order_kind(), level_kind(3), distance_kind((1, 2, 3)), distance_kind((1, 3, 4)), sum_kind(3),
          sector_kind(3)]


def lots(kind):
    """All lots of relations."""
    wanted = product((False, True), repeat=kind.relations)
    return [tuple(x for x in range(kind.relations) if want[x]) for want in wanted]


def wrong_words(kind):
    """Values that are no words, each with the number that it is refused with."""
    many = kind.relations
    found = [(value, 0) for value in ODD_VALUES if type(value) not in (list, tuple)]
    found += [((), 0), ([], 0), ((many,), 0), ((-1,), 0), ((0, many), 1), ([0, 0, -1, 9], 2), ((0, True), 1),
              ((False,), 0), ((0, 0.0), 1), ((0, "0"), 1), ((0, None), 1), ((0, (0,)), 1), ([[0]], 0),
              ((0, 0, 0, EqualToAll()), 3), ((0,) * 999 + (many,), 999)]
    return found


class Ends(Case):
    def test_joined(self):
        for kind in small_kinds()[::2] + [sector_kind(4)]:
            allowed = kind.triples
            for one, other in product(lots(kind), repeat=2):
                told = joined(kind=kind, one=one, other=other)
                self.assertEqual(told, tuple(sorted({z for x, y, z in allowed if x in one and y in other})))
                self.assertIs(type(told), tuple)

    def test_ends(self):
        for kind in small_kinds() + list(some_kinds(4, 5, 30)):
            for word in words_up_to(kind, 3):
                told = ends(kind=kind, word=list(word))
                self.assertEqual(told, tuple(sorted(slow_ends(kind, word))))
                self.assertIs(type(told), tuple)

    def test_by_joined(self):
        for kind in small_kinds():
            for x in range(kind.relations):
                self.assertEqual(ends(kind, (x,)), (x,))
            for word in words_up_to(kind, 3):
                for x in range(kind.relations):
                    self.assertEqual(ends(kind, word + (x,)), joined(kind, ends(kind, word), (x,)))

    def test_long_words(self):
        kind = distance_kind((1, 2, 3, 4, 5, 6))
        self.assertEqual(ends(kind, [0] * 1000), (0, 1, 2, 3, 4, 5))
        self.assertEqual(ends(order_kind(), (0,) * 1000), (0,))
        self.assertEqual(ends(order_kind(), (0,) * 999 + (1,)), (0, 1))
        self.assertEqual(ends(sum_kind(6), (1,) * 1000), (1000 % 6,))
        self.assertEqual(ends(Kind((0,), []), (0,) * 1000), ())

    def test_wrong_words(self):
        for kind in [order_kind(), free_kind(3), Kind((0,), [])]:
            for word, at in wrong_words(kind):
                self.refused(InvalidWord, at, ends, kind, word)

    def test_bracket_facts(self):
        tried = 0
        for kind in small_kinds() + GLUING:
            if glues_over(kind, 2):
                for one, other in product(list(words_up_to(kind, 2)), repeat=2):
                    tried += 1
                    self.assertEqual(ends(kind, one + other), joined(kind, ends(kind, one), ends(kind, other)))
                    back = [kind.turned[x] for x in reversed(one + other)]
                    self.assertEqual(
                        ends(kind, back), tuple(sorted(kind.turned[x] for x in ends(kind, one + other)))
                    )
        self.assertGreater(tried, 1000)

    def test_ends_in_full_networks(self):
        for kind in GLUING + [kind for kind in all_kinds(2) if glues(kind)]:
            for length in range(1, 4):
                found = {word: set() for word in product(range(kind.relations), repeat=length)}
                for rows in full_networks(kind, length + 1):
                    found[tuple(rows[u][u + 1] for u in range(length))].add(rows[0][length])
                for word in found:
                    self.assertEqual(ends(kind, word), tuple(sorted(found[word])))
                    self.assertNotEqual(ends(kind, word), ())


class LotsOfWays(Case):
    def slow_words(self, kind):
        """All lots of ways, each with the first of its shortest words, by trying all words."""
        found = {}
        for length in range(1, 2 ** kind.relations + 1):
            before = len(found)
            for word in product(range(kind.relations), repeat=length):
                found.setdefault(tuple(sorted(slow_ends(kind, word))), word)
            if len(found) == before:
                return found
        return found

    def test_way_lots_and_words(self):
        for kind in small_kinds() + GLUING:
            found = self.slow_words(kind)
            told = way_lots(kind=kind)
            self.assertEqual(told, tuple(sorted(found)))
            self.all_tuples(told)
            for lot in lots(kind):
                self.assertEqual(word_of(kind=kind, lot=lot), found.get(lot))
                self.assertNotIsInstance(word_of(kind, lot), list)

    def test_lots_of_six_relations(self):
        kind = distance_kind((1, 2, 3, 4, 5, 6))
        for lot in way_lots(kind):
            self.assertEqual(ends(kind, word_of(kind, lot)), lot)
        self.assertEqual(word_of(kind, (0, 1, 2, 3, 4, 5)), (2, 2))
        self.assertEqual(word_of(kind, (0, 1, 2)), (0, 1))
        self.assertEqual(word_of(kind, (0, 1, 2, 3, 4)), (1, 2))
        self.assertEqual(way_lots(free_kind(6)), tuple(sorted([(x,) for x in range(6)] + [tuple(range(6))])))

    def test_the_first_word(self):
        # (1, 0) and (1, 1) have the lot (0, 1), too; (0, 0) is less.
        self.assertEqual(word_of(free_kind(2), (0, 1)), (0, 0))
        self.assertEqual(word_of(order_kind(), (0, 1)), (0, 1))

    def test_word_of_any_value(self):
        kind = order_kind()
        for value in ODD_VALUES + [[0], (1, 0), (0, 0), (True,), (0, True), (2,), (0, 1, 2), (0.0,), "0", ([0],),
                                   (EqualToAll(),), (0, EqualToAll())]:
            if not (type(value) is tuple and value == (0,) and type(value[0]) is int):
                self.assertIsNone(word_of(kind, value))
        self.assertIsNone(word_of(kind, ()))
        self.assertEqual(word_of(Kind((0,), []), ()), (0, 0))

    def test_joined_lots_are_lots(self):
        for kind in small_kinds() + GLUING:
            if glues_over(kind, 2):
                told = way_lots(kind)
                for one, other in product(told, repeat=2):
                    self.assertIn(joined(kind, one, other), told)


class NetworksOfWays(Case):
    def check_way(self, kind, rows, places, word):
        """Check that neighbours of these places have the relations of the word."""
        self.assertEqual(tuple(rows[u][v] for u, v in zip(places, places[1:])), tuple(word))

    def test_way_network(self):
        for kind in GLUING:
            for word in words_up_to(kind, 4):
                for relation in range(kind.relations):
                    if relation in ends(kind, word):
                        rows = way_network(kind=kind, word=list(word), relation=relation)
                        self.assertIs(is_full(kind, rows), True)
                        self.assertEqual(len(rows), len(word) + 1)
                        self.check_way(kind, rows, range(len(rows)), word)
                        self.assertEqual(rows[0][-1], relation)
                    else:
                        self.refused(Refused, 0, way_network, kind, word, relation)

    def test_eight_relations(self):
        for kind in [distance_kind((1, 2, 3, 4, 5)), level_kind(5), sum_kind(5), sector_kind(3)]:
            word = [0, 1, 2, 0, 0, 1, 0, 2]
            for relation in ends(kind, word):
                rows = way_network(kind, word, relation)
                self.assertIs(is_full(kind, rows), True)
                self.check_way(kind, rows, range(9), word)
                self.assertEqual(rows[0][8], relation)

    def test_way_network_refused(self):
        kind, other = order_kind(), all_but_threes(2)
        for word, at in wrong_words(kind):
            for some in (kind, other):
                self.refused(InvalidWord, at, way_network, some, word, 9)
                self.refused(InvalidWord, at, way_network, some, word, None)
        for relation in [0, 1, 9, None]:
            self.refused(NotDeciding, 0, way_network, other, (0, 0), relation)
        for value in ODD_VALUES + [2, 1]:
            self.refused(Refused, 0, way_network, kind, (0, 0), value)
        self.refused(Refused, 0, way_network, kind, (0,), 1)
        self.refused(Refused, 0, way_network, kind, (0, 1), True)
        self.assertEqual(way_network(kind, (1,), 1), ((None, 1), (0, None)))

    def check_ways(self, kind, words, relation):
        rows = ways_network(kind=kind, words=words, relation=relation)
        self.assertIs(is_full(kind, rows), True)
        last = 1 + sum(len(word) - 1 for word in words)
        self.assertEqual(len(rows), last + 1)
        self.assertEqual(rows[0][last], relation)
        at = 1
        for word in words:
            between = list(range(at, at + len(word) - 1))
            self.check_way(kind, rows, [0] + between + [last], word)
            at += len(between)

    def test_ways_network(self):
        for kind in GLUING:
            words = list(words_up_to(kind, 3))
            for first, second in zip(words, words[3::2] + words[::5]):
                for third in words[::9]:
                    some = [list(first), second, third]
                    lacking = [[x for x in range(kind.relations) if x not in ends(kind, word)] for word in some]
                    for relation in range(kind.relations):
                        wrong = [at for at, lot in enumerate(lacking) if relation in lot]
                        if wrong:
                            self.refused(Refused, wrong[0], ways_network, kind, tuple(some), relation)
                        else:
                            self.check_ways(kind, some, relation)

    def test_most_places_between(self):
        kind = distance_kind((1, 2, 3, 4))
        self.check_ways(kind, [(0, 0, 0), (1, 1), (2, 0), (0,) * 3], 2)
        self.check_ways(kind, [(2,)], 2)
        self.check_ways(kind, ((2,), (2,), (0, 1), (2,)), 2)
        self.check_ways(kind, [(0, 0, 0, 0, 0, 0, 0)], 3)
        self.check_ways(kind, [(1, 1)] * 6, 0)

    def test_ways_network_refused(self):
        kind, other = order_kind(), all_but_threes(2)
        for some in (kind, other):
            for value in ODD_VALUES:
                if type(value) not in (list, tuple):
                    self.refused(InvalidWord, 0, ways_network, some, value, 0)
            for words in [(), [], [()], ((0,), ()), [(0, 2)], (0, 1)]:
                at = 1 if words == ((0,), ()) else 0
                self.refused(InvalidWord, at, ways_network, some, words, None)
            for word, _ in wrong_words(kind):
                self.refused(InvalidWord, 2, ways_network, some, [(0,), [0, 1], word, ()], 7)
        self.refused(NotDeciding, 0, ways_network, other, [(0, 0)], None)
        for value in ODD_VALUES + [2]:
            self.refused(Refused, 0, ways_network, kind, [(0, 0), (0, 1)], value)
        self.refused(Refused, 1, ways_network, kind, [(0, 1), (0, 0), (0,)], 1)
        self.refused(Refused, 2, ways_network, kind, [(1, 1), (0, 1), (0,), (0,)], 1)


if __name__ == "__main__":
    unittest.main()
