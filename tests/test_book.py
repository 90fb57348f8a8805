"""[53], [54]: books."""

import random
import unittest
from itertools import combinations, permutations

from ringsdecide.book import Book
from ringsdecide.built import distance_kind, free_kind, level_kind, order_kind, sum_kind
from ringsdecide.choices import filled
from ringsdecide.errors import InvalidNetwork, NotDeciding, Refused
from ringsdecide.networks import Network, with_told
from ringsdecide.possible import possible_rows
from ringsdecide.rings import is_ring, ring_can
from tests.helpers import (
    APART_OR_UNMEETING, ODD_VALUES, Case, EqualToAll, clock_rows, deciding_kinds, level_rows, row_rows,
    slow_completions, slow_possible_rows, slow_ring_can, tree_rows,
)


class Wrong(Exception):
    """An error that a look may raise."""


def no_places(many):
    """Values that are no places below `many`."""
    return [value for value in ODD_VALUES if type(value) is not int or value >= many] + [
        many, -1, 1.0, "0", (0,), [0], True, False, EqualToAll(),
    ]


class Deeds(Case):
    def check(self, book, told):
        """Check all that a book tells against what is told, a dict of pairs."""
        network = Network(book.kind, book.places, [(u, v, told[u, v]) for u, v in told])
        self.assertEqual(book.network(), network)
        rows = slow_possible_rows(network)
        free = []
        for u, v in permutations(range(book.places), 2):
            self.assertNotEqual(rows[u][v], ())
            self.assertEqual(book.possible(u=u, v=v), rows[u][v])
            if u < v and network.between(u, v) is None and len(rows[u][v]) > 1:
                free.append((u, v))
            for x in range(book.kind.relations):
                self.check_why(book, network, u, v, x, rows[u][v])
        self.assertEqual(book.free_pairs(), tuple(free))
        self.all_tuples(book.free_pairs())
        self.assertEqual(book.completion(), slow_completions(network)[0])
        return rows

    def check_why(self, book, network, u, v, x, lot):
        why = book.why_not(u=u, v=v, x=x)
        if x in lot:
            self.assertIs(why, None)
        elif network.between(u, v) is not None:
            self.assertEqual(why, ())
        else:
            self.assertIs(type(why), tuple)
            self.assertEqual(why[:2], (u, v))
            further = with_told(network, u, v, x)
            self.assertIs(is_ring(further, why), True)
            self.assertIs(ring_can(further, why), False)
            self.assertIs(slow_ring_can(further, why), False)

    def tell(self, book, told, rows, u, v, x):
        """Tell, and tell it the dict, if it is not refused; whether it was done."""
        if (u, v) in told or (v, u) in told:
            self.refused(Refused, 2, book.tell, u, v, x)
            return False
        if x not in rows[u][v]:
            self.refused(Refused, 3, book.tell, u=u, v=v, x=x)
            return False
        self.assertIs(book.tell(u=u, v=v, x=x), None)
        told[u, v] = x
        return True

    def take(self, book, told, u, v):
        """Take, and take it from the dict, if it is not refused; whether it was done."""
        if (u, v) not in told and (v, u) not in told:
            self.refused(Refused, 2, book.take, u, v)
            return False
        self.assertIs(book.take(u=u, v=v), None)
        told.pop((u, v), None)
        told.pop((v, u), None)
        return True

    def test_some_deeds(self):
        chance = random.Random(53)
        counts = {"tell": 0, "take": 0, "undo": 0}
        for kind in deciding_kinds()[::3] + [order_kind(), distance_kind((1, 2, 3)), sum_kind(3), level_kind(3)]:
            book = Book(kind=kind, places=4)
            states = [{}]
            for _ in range(14):
                told = dict(states[-1])
                rows = self.check(book, told)
                u, v = chance.sample(range(4), 2)
                way = chance.choice(("tell", "tell", "tell", "take", "undo"))
                if way == "undo":
                    self.assertIs(book.undo(), len(states) > 1)
                    counts[way] += len(states) > 1
                    states = states[:-1] or [{}]
                else:
                    done = (self.tell(book, told, rows, u, v, chance.randrange(kind.relations)) if way == "tell"
                            else self.take(book, told, u, v))
                    if done:
                        counts[way] += 1
                        states.append(told)
                self.assertEqual(len(book), len(states) - 1)
            self.check(book, states[-1])
            while len(states) > 1:
                self.assertIs(book.undo(), True)
                states.pop()
                self.check(book, states[-1])
            self.assertIs(book.undo(), False)
            self.assertEqual(len(book), 0)
        self.assertTrue(min(counts.values()) > 10, counts)

    def test_a_new_book(self):
        for kind in (order_kind(), free_kind(1), sum_kind(5)):
            for places in (1, 2, 5):
                book = Book(kind, places)
                self.assertEqual((book.kind, book.places), (kind, places))
                self.assertEqual(book.network(), Network(kind, places, []))
                self.assertEqual(len(book), 0)
                self.assertIs(book.undo(), False)
        self.assertEqual(Book(order_kind(), 1).completion(), ((None,),))
        self.assertEqual(Book(order_kind(), 1).free_pairs(), ())
        self.assertEqual(Book(free_kind(1), 3).free_pairs(), ())

    def test_kind_and_places_refused(self):
        for kind, at in APART_OR_UNMEETING:
            for places in (1, 0, None, 3):
                self.refused(NotDeciding, at, Book, kind, places)
        for places in ODD_VALUES + [0, -1, True, 2.0, "2", [2], EqualToAll()]:
            if type(places) is not int or places < 1:
                self.refused(InvalidNetwork, 0, Book, order_kind(), places)

    def test_refused_in_order(self):
        book = Book(order_kind(), 3)
        book.tell(0, 1, 0)
        book.tell(1, 2, 0)
        network = book.network()
        for value in no_places(3):
            for x in (0, 5, None):
                self.refused(Refused, 0, book.tell, value, 1, x)
                self.refused(Refused, 0, book.tell, 1, value, x)
                self.refused(Refused, 0, book.why_not, value, 1, x)
                self.refused(Refused, 0, book.why_not, 1, value, x)
            self.refused(Refused, 0, book.take, value, 1)
            self.refused(Refused, 0, book.take, 1, value)
            self.refused(Refused, 0, book.possible, value, 1)
            self.refused(Refused, 0, book.possible, 1, value)
        for u in range(3):
            self.refused(Refused, 0, book.tell, u, u, 0)
            self.refused(Refused, 0, book.take, u, u)
            self.refused(Refused, 0, book.possible, u, u)
            self.refused(Refused, 0, book.why_not, u, u, 0)
        for x in no_places(2):
            for u, v in permutations(range(3), 2):
                self.refused(Refused, 1, book.tell, u, v, x)
                self.refused(Refused, 1, book.why_not, u, v, x)
        for x in (0, 1):
            self.refused(Refused, 2, book.tell, 0, 1, x)
            self.refused(Refused, 2, book.tell, 1, 0, x)
        self.refused(Refused, 3, book.tell, 0, 2, 1)
        self.refused(Refused, 3, book.tell, 2, 0, 0)
        self.refused(Refused, 2, book.take, 0, 2)
        self.refused(Refused, 2, book.take, 2, 0)
        self.assertEqual(book.network(), network)
        self.assertEqual(len(book), 2)
        book.take(1, 0)
        self.refused(Refused, 2, book.take, 0, 1)
        self.assertEqual(book.network().told, ((1, 2, 0),))
        self.assertEqual(len(book), 3)
        self.assertIs(book.undo(), True)
        self.assertEqual(book.network(), network)

    def test_why_not(self):
        book = Book(order_kind(), 5)
        for u in range(4):
            book.tell(u, u + 1, 0)
        self.assertIs(book.why_not(0, 4, 0), None)
        self.assertIs(book.why_not(0, 1, 0), None)
        self.assertEqual(book.why_not(0, 1, 1), ())
        self.assertEqual(book.why_not(1, 0, 0), ())
        self.assertEqual(book.why_not(0, 4, 1), (0, 4, 3, 2, 1))
        self.assertEqual(book.why_not(4, 0, 0), (4, 0, 1, 2, 3))
        self.assertEqual(book.why_not(0, 2, 1), (0, 2, 1))

    def test_a_network_told_before_stays(self):
        book = Book(sum_kind(3), 3)
        first = book.network()
        book.tell(0, 1, 2)
        second = book.network()
        book.tell(1, 2, 1)
        book.take(0, 1)
        self.assertEqual(first, Network(sum_kind(3), 3, []))
        self.assertEqual(second, Network(sum_kind(3), 3, [(0, 1, 2)]))
        self.assertEqual(book.network(), Network(sum_kind(3), 3, [(1, 2, 1)]))
        self.assertEqual(book.possible(0, 1), (0, 1, 2))

    def test_two_books(self):
        one, other = Book(order_kind(), 3), Book(order_kind(), 3)
        one.tell(0, 1, 0)
        self.assertEqual((len(one), len(other)), (1, 0))
        self.assertEqual(other.possible(0, 1), (0, 1))
        other.tell(0, 1, 1)
        other.tell(1, 2, 1)
        self.assertEqual(one.network().told, ((0, 1, 0),))
        self.assertIs(one.undo(), True)
        self.assertEqual(other.network().told, ((0, 1, 1), (1, 2, 1)))
        self.assertIs(one == other, False)


class Looks(Case):
    def book(self):
        book = Book(order_kind(), 4)
        book.tell(0, 1, 0)
        book.tell(1, 2, 0)
        return book

    def test_within(self):
        book = self.book()
        network = book.network()

        def work(same):
            self.assertIs(same, book)
            same.tell(2, 3, 0)
            same.take(0, 1)
            self.assertEqual(len(same), 4)
            self.assertEqual(same.possible(1, 3), (0,))
            self.assertEqual(same.possible(0, 1), (0, 1))
            return [same.network(), None]

        told = book.within(work=work)
        self.assertEqual(told, [Network(order_kind(), 4, [(1, 2, 0), (2, 3, 0)]), None])
        self.assertEqual((book.network(), len(book)), (network, 2))
        self.assertEqual((book.possible(1, 3), book.possible(0, 1)), ((0, 1), (0,)))
        self.assertIs(book.within(lambda same: None), None)
        self.assertIs(book.within(lambda same: same), book)
        self.assertIs(book.undo(), True)
        self.assertEqual(book.network().told, ((0, 1, 0),))

    def test_a_look_that_raises(self):
        book = self.book()
        network = book.network()

        def work(same):
            same.tell(2, 3, 0)
            same.take(1, 2)
            raise Wrong("as it is")

        with self.assertRaises(Wrong) as caught:
            book.within(work)
        self.assertEqual(str(caught.exception), "as it is")
        self.assertEqual((book.network(), len(book)), (network, 2))

        def refused(same):
            same.tell(2, 3, 0)
            same.tell(0, 3, 1)

        self.refused(Refused, 3, book.within, refused)
        self.assertEqual((book.network(), len(book)), (network, 2))
        with self.assertRaises(KeyboardInterrupt):
            book.within(self.stop)
        self.assertEqual((book.network(), len(book)), (network, 2))

    def stop(self, book):
        book.tell(0, 3, 0)
        raise KeyboardInterrupt

    def test_a_look_within_a_look(self):
        book = self.book()
        network = book.network()

        def inner(same):
            same.tell(3, 2, 0)
            same.take(0, 1)
            return same.network().told

        def outer(same):
            same.tell(0, 3, 0)
            before = same.network()
            told = same.within(inner)
            self.assertEqual((same.network(), len(same)), (before, 3))
            with self.assertRaises(Refused):
                same.within(lambda again: [again.tell(2, 3, 0), again.tell(2, 3, 0)])
            self.assertEqual((same.network(), len(same)), (before, 3))
            self.assertIs(same.undo(), True)
            self.assertEqual(same.network(), network)
            same.tell(3, 0, 0)
            return told

        self.assertEqual(book.within(outer), ((0, 3, 0), (1, 2, 0), (2, 3, 1)))
        self.assertEqual((book.network(), len(book)), (network, 2))

    def test_undo_within(self):
        book = self.book()

        def work(same):
            same.tell(2, 3, 0)
            same.tell(0, 3, 0)
            self.assertIs(same.undo(), True)
            return len(same)

        self.assertEqual(book.within(work), 3)
        self.assertEqual(len(book), 2)
        empty = Book(order_kind(), 2)
        self.assertIs(empty.within(lambda same: same.undo()), False)


class ManyPlaces(Case):
    def test_forty_places(self):
        chance = random.Random(54)
        kinds = [(order_kind(), row_rows(chance, 40)), (distance_kind((1, 2, 3, 4, 5)), tree_rows(chance, 40, 5)),
                 (sum_kind(5), clock_rows(chance, 40, 5)), (level_kind(5), level_rows(40, 5))]
        for kind, rows in kinds:
            book = Book(kind, 40)
            pairs = list(permutations(range(40), 2))
            chance.shuffle(pairs)
            told = {}
            for u, v in pairs[:300]:
                if (v, u) not in told:
                    book.tell(u, v, rows[u][v])
                    told[u, v] = rows[u][v]
                if chance.random() < 0.1:
                    pair = chance.choice(list(told))
                    book.take(*pair[::-1])
                    del told[pair]
            network = book.network()
            self.assertEqual(network, Network(kind, 40, [(u, v, told[u, v]) for u, v in told]))
            lots = possible_rows(network)
            for u, v in pairs[:200]:
                self.assertEqual(book.possible(u, v), lots[u][v])
                x = chance.randrange(kind.relations)
                why = self.soon(book.why_not, u, v, x)
                if x in lots[u][v]:
                    self.assertIs(why, None)
                elif network.between(u, v) is not None:
                    self.assertEqual(why, ())
                else:
                    self.assertEqual(why[:2], (u, v))
                    self.assertIs(ring_can(with_told(network, u, v, x), why), False)
            self.assertEqual(self.soon(book.completion), filled(network))
            free = tuple((u, v) for u, v in combinations(range(40), 2)
                         if network.between(u, v) is None and len(lots[u][v]) > 1)
            self.assertEqual(self.soon(book.free_pairs), free)
            self.soon(book.within, lambda same: [same.tell(u, v, same.possible(u, v)[0]) for u, v in free[:1]])
            for _ in range(len(book)):
                book.undo()
            self.assertEqual(book.network(), Network(kind, 40, []))

    def test_places_of_which_nothing_is_told(self):
        book = Book(distance_kind((1, 2, 3)), 6)
        book.tell(4, 1, 0)
        self.assertEqual(book.possible(4, 1), (0,))
        for u, v in permutations(range(6), 2):
            if {u, v} != {1, 4}:
                self.assertEqual(book.possible(u, v), (0, 1, 2))
        book.tell(1, 5, 0)
        self.assertEqual(book.possible(4, 5), (0, 1))
        book.take(4, 1)
        self.assertEqual(book.possible(4, 5), (0, 1, 2))


if __name__ == "__main__":
    unittest.main()
