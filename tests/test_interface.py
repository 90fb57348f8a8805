"""The interface: names, arguments and methods stand where the document lists them."""

import inspect
import unittest
from importlib import import_module

from ringsdecide.book import Book
from ringsdecide.built import order_kind
from ringsdecide.desk import Desk
from ringsdecide.errors import InvalidCommand, RingsError
from ringsdecide.fullnets import common_lot, extended
from ringsdecide.halftold import HalfTold
from ringsdecide.meeting import clashing_ways, common_of_ways
from ringsdecide.networks import Network
from ringsdecide.ways import ends, way_network, ways_network
from ringsdecide.webs import Web

INTERFACE = {
    "kinds": "Kind(turned, triples); readings(turned, triple); together(kind, x, y); is_allowed(kind, x, y, z); "
             "renamed(kind, names); likeness(one, other); symmetries(kind)",
    "built": "free_kind(many); barred_kind(turned, barred); order_kind(); level_kind(many); distance_kind(numbers); "
             "sum_kind(many); sector_kind(many)",
    "kindtexts": "kind_text(kind); read_kind(text)",
    "fullnets": "is_full(kind, value); full_networks(kind, places); extensions(kind, rows); "
                "extended(kind, rows, extension); common_lot(kind, one, other)",
    "gluing": "glues_over(kind, places); glues(kind); gluing_fault(kind); is_gluing_fault(kind, value); "
              "glue(kind, one, other, shared); can_glue(kind, one, other, shared)",
    "ways": "joined(kind, one, other); ends(kind, word); way_lots(kind); word_of(kind, lot); "
            "way_network(kind, word, relation); ways_network(kind, words, relation)",
    "meeting": "meets(kind); meeting_fault(kind); is_meeting_fault(kind, value); decides(kind); "
               "require_deciding(kind); common_of_ways(kind, words); clashing_ways(kind, words)",
    "networks": "Network(kind, places, told); with_told(network, u, v, x); rows_of(network); "
                "is_completion(network, value); tried_completion(network)",
    "rings": "is_ring(network, value); is_bare(network, ring); bare_rings(network); ring_network(network, ring); "
             "ring_can(network, ring)",
    "deciding": "verdict(network); is_verdict(network, value)",
    "against": "against(kind); is_against(kind, value)",
    "steps": "are_lots(kind, value); lots_of(network); stepped(kind, lots); rounds(kind, lots)",
    "reaching": "reach(kind); is_risky(kind, length); lots_after(kind, count); repeats(kind); "
                "bad_round(kind, length); is_bad_round(kind, value); endless(kind); is_endless(kind, value); "
                "lasting(kind); far_relations(kind)",
    "possible": "possible(network, u, v); possible_rows(network); sure_pairs(network); "
                "way_against(network, u, v, x); is_way_against(network, u, v, x, value)",
    "choices": "chosen(network, choices); filled(network)",
    "needless": "needless(network); core(network); same_completions(one, other)",
    "halftold": "HalfTold(kind, places, told); soft_lots(kind); half_lots(half); is_half_completion(half, value); "
                "half_possible(half); half_filled(half); unfolded(half); way_of_lots(half, u, v, x); "
                "is_way_of_lots(half, u, v, x, value)",
    "distances": "bounded_sum(numbers, row); bracket_fault(numbers); distance_fault(numbers); "
                 "gluing_sets(most, size); least_sums(numbers); distance_reach(numbers)",
    "shortways": "way_sum(numbers, network, way); short_way(numbers, network, u, v); "
                 "greatest_completion(numbers, network); long_pair(numbers, network); "
                 "is_long_pair(numbers, network, value)",
    "sums": "ring_sum(network, ring); heights(network); uneven_ring(network); is_uneven_ring(network, value); "
            "rows_of_heights(many, row); count_completions(network)",
    "triangles": "web_triangles(web); ring_row(web, ring); triangle_sum(web, modulus, ring); "
                 "telling_against(web, modulus, ring); is_triangle_sum(web, modulus, ring, value); "
                 "is_telling_against(web, modulus, ring, value)",
    "webs": "Web(places, pairs); web_of(network); web_rings(web); longest_ring(web); is_safe(kind, web); "
            "spoiled(kind, web); is_spoiled(kind, web, value); ring_plan(web); is_plan(web, value); "
            "plan_completion(network); further_pairs(kind, web); all_further(kind, web)",
    "clocks": "is_sound(web, modulus); unsound(web, modulus); is_unsound(web, modulus, value); "
              "count_tellings(web, modulus); triangle_rank(web, prime); ring_group(web); wound_web(length, rounds); "
              "beside(one, other)",
    "book": "Book(kind, places)",
    "sheets": "sheet_holds(value); sheet(name, question); wrong_sheets(values)",
    "desk": "Desk()",
}
METHODS = {
    "networks.Network": "between(self, u, v); __eq__(self, other)",
    "halftold.HalfTold": "__eq__(self, other)",
    "webs.Web": "__eq__(self, other)",
    "kinds.Kind": "__eq__(self, other)",
    "book.Book": "__len__(self); network(self); tell(self, u, v, x); take(self, u, v); possible(self, u, v); "
                 "why_not(self, u, v, x); completion(self); free_pairs(self); undo(self); within(self, work)",
    "desk.Desk": "say(self, command)",
}
ERRORS = ["RingsError", "InvalidKind", "InvalidNetwork", "InvalidWord", "InvalidQuestion", "InvalidText",
          "NotDeciding", "Refused", "InvalidCommand"]


class Interface(unittest.TestCase):
    def test_names_and_arguments(self):
        for name, listed in INTERFACE.items():
            module = import_module(f"ringsdecide.{name}")
            for form in listed.split("; "):
                thing = getattr(module, form.split("(")[0])
                self.assertEqual(thing.__module__, module.__name__)
                self.assertEqual(f"{thing.__name__}{inspect.signature(thing)}", form)

    def test_errors(self):
        module = import_module("ringsdecide.errors")
        for name in ERRORS:
            self.assertEqual(getattr(module, name).__module__, "ringsdecide.errors")

    def test_methods(self):
        for name, listed in METHODS.items():
            module, name = name.split(".")
            methods = vars(getattr(import_module(f"ringsdecide.{module}"), name))
            for form in listed.split("; "):
                method = methods[form.split("(")[0]]
                self.assertEqual(f"{method.__name__}{inspect.signature(method)}", form)

    def test_no_object_equals_one_of_another_kind(self):
        kind = order_kind()
        things = [kind, Network(kind, 1, []), HalfTold(kind, 1, []), Web(1, []), Book(kind, 1), Desk(), 1, (), None,
                  (1, ()), (kind, 1, ()), RingsError(), InvalidCommand()]
        for at, one in enumerate(things):
            for other_at, other in enumerate(things):
                self.assertIs(one == other, at == other_at)
                self.assertIs(one != other, at != other_at)

    def test_arguments_stay(self):
        kind = order_kind()
        word, words, one, other = [0, 1], [[0], [0, 1]], [0, 1], [1, 1]
        rows = ((None, 0), (1, None))
        ends(kind, word)
        way_network(kind, word, 0)
        ways_network(kind, words, 0)
        common_of_ways(kind, words)
        clashing_ways(kind, words + [[1]])
        common_lot(kind, one, other)
        extended(kind, rows, other)
        self.assertEqual((word, words, one, other), ([0, 1], [[0], [0, 1]], [0, 1], [1, 1]))
        self.assertEqual(rows, ((None, 0), (1, None)))


if __name__ == "__main__":
    unittest.main()
