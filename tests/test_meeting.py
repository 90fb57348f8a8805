"""[17], [18]: kinds that meet, and kinds that decide; what [8] says of these."""

import unittest
from itertools import combinations, permutations, product

from ringsdecide.built import (
    barred_kind, distance_kind, free_kind, level_kind, order_kind, sector_kind, sum_kind,
)
from ringsdecide.errors import InvalidWord, NotDeciding
from ringsdecide.gluing import glues
from ringsdecide.kinds import Kind, renamed
from ringsdecide.meeting import (
    clashing_ways, common_of_ways, decides, is_meeting_fault, meeting_fault, meets, require_deciding,
)
from ringsdecide.ways import ends, way_lots, word_of
from tests.helpers import (
    ODD_VALUES, Case, EqualToAll, all_but_threes, all_kinds, slow_ends, small_kinds, some_kinds, words_up_to,
)


def slow_fault_size(kind):
    """How many lots of ways, at least three, meet two by two but not all together: the least number, or None."""
    found = [set(lot) for lot in way_lots(kind)]
    for many in range(3, kind.relations + 2):
        for some in combinations(found, many):
            if all(one & other for one, other in combinations(some, 2)) and not set.intersection(*some):
                return many
    return None


class Meeting(Case):
    def test_meeting_fault(self):
        sizes = set()
        for kind in small_kinds() + list(some_kinds(4, 60, 40)) + [sector_kind(3), sector_kind(4), sum_kind(4)]:
            size = slow_fault_size(kind)
            sizes.add(size)
            fault = meeting_fault(kind=kind)
            self.assertIs(meets(kind=kind), size is None)
            self.assertEqual(None if fault is None else len(fault), size)
            if fault is not None:
                self.all_tuples(fault)
                self.assertLessEqual(len(fault), kind.relations)
                self.assertIs(is_meeting_fault(kind=kind, value=fault), True)
                found = [set(ends(kind, word)) for word in fault]
                self.assertTrue(all(one & other for one, other in combinations(found, 2)))
                self.assertEqual(set.intersection(*found), set())
                for word in fault:
                    self.assertEqual(word, word_of(kind, ends(kind, word)))
        self.assertLessEqual({None, 3}, sizes)

    def test_more_than_three_words(self):
        for kind, size in [
            (barred_kind((0, 1, 3, 2), [(0, 0, 0), (1, 3, 3)]), 4),
            (barred_kind((0, 2, 1, 4, 3), [(0, 0, 0), (1, 3, 1)]), 4),
            (barred_kind((3, 2, 1, 0, 4), [(0, 0, 3), (1, 4, 1)]), 5),
            (barred_kind((0, 5, 3, 2, 4, 1), [(0, 3, 4), (0, 4, 5)]), 4),
            (barred_kind((4, 5, 3, 2, 0, 1), [(0, 2, 1)]), 6),
        ]:
            fault = meeting_fault(kind)
            self.assertEqual((len(fault), slow_fault_size(kind)), (size, size))
            self.assertIs(is_meeting_fault(kind, fault), True)
            for at in range(size):
                self.assertIs(is_meeting_fault(kind, fault[:at] + fault[at + 1:]), False)

    def test_few_relations_meet(self):
        for many in (1, 2):
            for kind in all_kinds(many):
                self.assertIs(meets(kind), True)
                self.assertIsNone(meeting_fault(kind))

    def test_distances_and_levels_meet(self):
        for numbers in [(1, 2, 3, 4, 5, 6), (1, 2, 4), (1, 3, 4, 9), (2, 3, 5, 7, 11)]:
            self.assertIs(meets(distance_kind(numbers)), True)
        for many in range(1, 6):
            self.assertIs(meets(level_kind(many)), True)

    def test_is_meeting_fault_with_more_words(self):
        kind = sector_kind(3)
        fault = meeting_fault(kind)
        self.assertIs(is_meeting_fault(kind, fault + fault[:1]), True)
        self.assertIs(is_meeting_fault(kind, fault + ((0, 0, 0, 0),)), True)
        self.assertIs(is_meeting_fault(kind, fault[::-1] * 3), True)
        self.assertIs(is_meeting_fault(kind, fault[:2]), False)
        self.assertIs(is_meeting_fault(kind, fault[:2] + fault[:1]), False)
        self.assertIs(is_meeting_fault(kind, fault[:2] + ((0,),)), False)

    def test_is_meeting_fault_tried_out(self):
        for kind in [sector_kind(3), sector_kind(4)] + list(some_kinds(3, 12, 43)):
            words = list(words_up_to(kind, 2))
            for some in list(combinations(words, 3))[::7] + list(combinations(words, 4))[::400]:
                found = [slow_ends(kind, word) for word in some]
                wrong = all(a & b for a, b in combinations(found, 2)) and not set.intersection(*found)
                self.assertIs(is_meeting_fault(kind, some), wrong)

    def test_empty_lots_meet_nothing(self):
        kind = Kind((0,), [])
        self.assertEqual(ends(kind, (0, 0)), ())
        self.assertIs(is_meeting_fault(kind, ((0, 0),) * 3), False)
        self.assertIs(is_meeting_fault(kind, ((0, 0), (0,), (0,))), False)
        self.assertIs(meets(kind), True)

    def test_is_meeting_fault_of_any_value(self):
        kind = sector_kind(3)
        fault = meeting_fault(kind)
        for value in ODD_VALUES:
            self.assertIs(is_meeting_fault(kind, value), False)
            if not (type(value) is tuple and value == (0,)):
                self.assertIs(is_meeting_fault(kind, fault + (value,)), False)
        for value in [list(fault), tuple(list(word) for word in fault), fault + ((),), fault + ((3,),),
                      fault + ((True,),), fault + ([0, 0],), (fault,), fault + ((EqualToAll(),),)]:
            self.assertIs(is_meeting_fault(kind, value), False)

    def test_lots_that_meet_as_many_as_relations(self):
        for kind in small_kinds() + [sector_kind(3)]:
            found = [set(lot) for lot in way_lots(kind)]
            for many in range(2, 6):
                for some in combinations(found, many):
                    few = range(2, min(kind.relations, many) + 1)
                    if kind.relations > 1 and all(
                        set.intersection(*part) for count in few for part in combinations(some, count)
                    ):
                        self.assertTrue(set.intersection(*some))


class Deciding(Case):
    def test_decides(self):
        for kind in small_kinds() + [sector_kind(3), order_kind(), sum_kind(5), level_kind(5), all_but_threes(3)]:
            told = glues(kind) and meets(kind)
            self.assertIs(decides(kind=kind), told)
            if told:
                self.assertIsNone(require_deciding(kind=kind))
            else:
                self.refused(NotDeciding, 1 if glues(kind) else 0, require_deciding, kind)

    def test_known_kinds(self):
        self.refused(NotDeciding, 1, require_deciding, sector_kind(3))
        self.refused(NotDeciding, 0, require_deciding, distance_kind((1, 2, 4)))
        for kind in [distance_kind((1, 2, 3, 4, 5)), sum_kind(4), free_kind(5), order_kind(), level_kind(4)]:
            self.assertIs(decides(kind), True)
        # Neither glues nor meets: the number tells of gluing.
        neither = [kind for kind in some_kinds(4, 60, 40) if not glues(kind) and not meets(kind)]
        self.assertGreater(len(neither), 0)
        for kind in neither:
            self.refused(NotDeciding, 0, require_deciding, kind)

    def test_renamed_kinds_are_alike(self):
        for kind in list(all_kinds(2)) + list(some_kinds(3, 15, 8)) + [sector_kind(3), level_kind(3)]:
            told = (glues(kind), meets(kind), decides(kind))
            for names in permutations(range(kind.relations)):
                other = renamed(kind, names)
                self.assertEqual((glues(other), meets(other), decides(other)), told)

    def some_words(self, kind):
        """Some sequences of words."""
        words = list(words_up_to(kind, 3))
        for start in range(1, 12):
            for step in (1, 3, 5):
                yield words[start::start * step]
        for pair in list(product(words, repeat=2))[::31]:
            yield pair
        for some in list(combinations(words[:14], 3))[::5]:
            yield some

    def test_common_and_clashing(self):
        for kind in small_kinds()[::2] + [sector_kind(3), sector_kind(4), level_kind(4), distance_kind((1, 2, 3))]:
            every = set(range(kind.relations))
            for words in self.some_words(kind):
                if not words:
                    continue
                found = [slow_ends(kind, word) for word in words]
                common = every.intersection(*found)
                self.assertEqual(common_of_ways(kind=kind, words=words), tuple(sorted(common)))
                self.assertIs(type(common_of_ways(kind, words)), tuple)
                told = clashing_ways(kind=kind, words=tuple(list(word) for word in words))
                self.assertIs(told is None, bool(common))
                if told is not None:
                    self.all_tuples(told)
                    self.assertEqual(told, tuple(sorted(set(told))))
                    self.assertEqual(every.intersection(*[found[at] for at in told]), set())
                    for left_out in told:
                        kept = [found[at] for at in told if at != left_out]
                        self.assertNotEqual(every.intersection(*kept), set())
                    if decides(kind):
                        self.assertEqual(len(told), 2)

    def test_a_single_index(self):
        kind = Kind((0, 1), [(0, 0, 0)])
        self.assertEqual(clashing_ways(kind, [(0,), (1, 1), (0, 0)]), (1,))
        self.assertEqual(clashing_ways(kind, [(1, 1)]), (0,))
        self.assertEqual(common_of_ways(kind, [(1, 1)]), ())

    def test_three_indexes(self):
        kind = sector_kind(3)
        fault = list(meeting_fault(kind))
        told = clashing_ways(kind, [fault[0]] + fault)
        self.assertEqual(len(told), 3)
        self.assertEqual(common_of_ways(kind, fault), ())

    def test_many_long_words(self):
        kind = distance_kind((1, 2, 3, 4, 5, 6))
        words = [[0] * 2000] + [(0, 0)] * 3000 + [[5]] + [[5]] * 10
        self.assertEqual(common_of_ways(kind, words[:3001]), (0, 1))
        told = clashing_ways(kind, words)
        self.assertEqual(len(told), 2)
        self.assertEqual(clashing_ways(kind, words[:3001]), None)

    def test_words_refused(self):
        kind = order_kind()
        for function in (common_of_ways, clashing_ways):
            for value in ODD_VALUES:
                if type(value) not in (list, tuple):
                    self.refused(InvalidWord, 0, function, kind, value)
                if not (type(value) is tuple and value == (0,)):
                    self.refused(InvalidWord, 2, function, kind, [(0,), [1, 0], value, None])
            self.refused(InvalidWord, 0, function, kind, ())
            self.refused(InvalidWord, 0, function, kind, [])
            self.refused(InvalidWord, 1, function, kind, [(0,), (0, 2), ()])
            self.refused(InvalidWord, 0, function, kind, [0, 1])
            self.refused(InvalidWord, 1, function, kind, ([0], (True,)))

    def test_example(self):
        self.assertEqual(
            (ends(distance_kind((1, 2, 3)), (0, 0, 0)), meets(sector_kind(3)), len(way_lots(level_kind(3)))),
            ((0, 1, 2), False, 5),
        )


if __name__ == "__main__":
    unittest.main()
