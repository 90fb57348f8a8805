"""[57], [58]: desks."""

import unittest

from ringsdecide.book import Book
from ringsdecide.built import distance_kind, level_kind, order_kind
from ringsdecide.desk import Desk
from ringsdecide.errors import InvalidCommand, InvalidKind, InvalidNetwork, NotDeciding, Refused
from tests.helpers import ODD_VALUES, Case, EqualToAll


class DeskCase(Case):
    def says(self, desk, *talk):
        """Check the answers to commands, one after another."""
        for command, answer in zip(talk[::2], talk[1::2]):
            told = desk.say(command=command)
            self.assertIs(type(told), str)
            self.assertEqual(told, answer, command)

    def state(self, desk):
        """The book of a desk, and all that it has."""
        book = desk.book
        return (book,) if book is None else (book, book.network(), len(book))

    def no_command(self, desk, command):
        """Check that a command is refused, and that nothing changes."""
        before = self.state(desk)
        with self.assertRaises(InvalidCommand) as caught:
            desk.say(command)
        self.assertIs(type(caught.exception), InvalidCommand)
        self.assertIs(desk.book, before[0])
        self.assertEqual(self.state(desk), before)

    def wrong(self, desk, error, at, command):
        """Check that a command is refused by an error of the functions, and that nothing changes."""
        before = self.state(desk)
        self.refused(error, at, desk.say, command)
        self.assertIs(desk.book, before[0])
        self.assertEqual(self.state(desk), before)


class Commands(DeskCase):
    def test_a_talk(self):
        desk = Desk()
        self.assertIs(desk.book, None)
        self.says(
            desk,
            "order 4", "ok", "told", "nothing", "undo", "nothing", "tell 0 1 0", "ok", "tell 3 2 1", "ok",
            "told", "0-1:0 2-3:0", "possible 1 2", "0 1", "tell 1 2 0", "ok", "possible 0 3", "0", "possible 3 0", "1",
            "why 0 3 0", "possible", "why 0 3 1", "0 3 2 1", "why 3 0 0", "3 0 1 2", "why 0 1 1", "told otherwise",
            "why 0 1 0", "possible", "fill", "0-1:0 0-2:0 0-3:0 1-2:0 1-3:0 2-3:0", "told", "0-1:0 1-2:0 2-3:0",
            "take 1 0", "ok", "told", "1-2:0 2-3:0", "undo", "ok", "told", "0-1:0 1-2:0 2-3:0", "undo", "ok",
            "undo", "ok", "undo", "ok", "undo", "nothing", "told", "nothing",
        )
        self.assertIs(type(desk.book), Book)
        self.assertEqual((desk.book.kind, desk.book.places), (order_kind(), 4))

    def test_books(self):
        desk = Desk()
        for command, kind, places in [
            ("order 1", order_kind(), 1), ("levels 1 3", level_kind(1), 3), ("levels 5 2", level_kind(5), 2),
            ("distances 3 1", distance_kind((1,)), 3), ("distances 3 1 2 3", distance_kind((1, 2, 3)), 3),
            ("distances 2 1 2 3 4 5", distance_kind((1, 2, 3, 4, 5)), 2), ("order 40", order_kind(), 40),
            ("distances 6 1 9999", distance_kind((1, 9999)), 6),
            ("distances 7 2000 2001", distance_kind((2000, 2001)), 7),
        ]:
            before = desk.book
            self.says(desk, command, "ok")
            self.assertIsNot(desk.book, before)
            self.assertEqual((desk.book.kind, desk.book.places, len(desk.book)), (kind, places, 0))

    def test_answers(self):
        desk = Desk()
        self.says(
            desk,
            "distances 5 1 2 3 4", "ok", "tell 0 1 0", "ok", "tell 1 2 0", "ok", "possible 0 2", "0 1",
            "possible 0 4", "0 1 2 3", "why 0 2 3", "0 2 1", "why 2 0 2", "2 0 1", "tell 2 0 1", "ok",
            "told", "0-1:0 0-2:1 1-2:0", "fill", "0-1:0 0-2:1 0-3:0 0-4:0 1-2:0 1-3:0 1-4:0 2-3:0 2-4:0 3-4:0",
            "levels 3 1", "ok", "fill", "alone", "told", "nothing",
            "levels 2 2", "ok", "fill", "0-1:0", "tell 1 0 1", "ok", "fill", "0-1:1", "told", "0-1:1",
            "possible 0 1", "1", "why 1 0 0", "told otherwise",
            "distances 2 5", "ok", "possible 0 1", "0", "fill", "0-1:0", "why 0 1 0", "possible", "told", "nothing",
        )

    def test_places_of_two_figures_and_more(self):
        desk = Desk()
        self.says(desk, "order 12", "ok", "tell 10 9 0", "ok", "tell 11 10 0", "ok", "told", "9-10:1 10-11:1",
                  "why 9 11 0", "9 11 10", "possible 11 9", "0")
        self.says(desk, "order 9999", "ok", "tell 0 9998 0", "ok", "tell 9998 1000 0", "ok", "possible 0 1000", "0",
                  "why 1000 0 0", "1000 0 9998", "told", "0-9998:0 1000-9998:1", "possible 5 4321", "0 1",
                  "take 9998 0", "ok", "told", "1000-9998:1")

    def test_a_look_at_the_book(self):
        desk = Desk()
        self.says(desk, "order 3", "ok")
        desk.book.tell(0, 1, 0)
        self.says(desk, "told", "0-1:0", "undo", "ok", "undo", "nothing")
        other = Desk()
        self.assertIs(other.book, None)
        self.says(other, "order 2", "ok", "tell 0 1 1", "ok")
        self.says(desk, "told", "nothing")

    def test_a_book_begun_anew(self):
        desk = Desk()
        self.says(desk, "order 3", "ok", "tell 0 1 0", "ok", "order 3", "ok", "told", "nothing", "undo", "nothing")


class Refusals(DeskCase):
    def test_ahead_of_the_first_book(self):
        desk = Desk()
        for command in ["tell 0 1 0", "take 0 1", "possible 0 1", "why 0 1 0", "told", "fill", "undo"]:
            self.no_command(desk, command)
        self.wrong(desk, InvalidNetwork, 0, "order 0")
        self.wrong(desk, NotDeciding, 0, "distances 3 1 2 4")
        self.wrong(desk, InvalidKind, 0, "distances 3 0")
        self.assertIs(desk.book, None)

    def test_forms(self):
        desk = Desk()
        for begun in (False, True):
            for command in [
                "", " ", "order", "order ", " order 3", "order  3", "order 3 ", "order 3 3", "order x", "Order 3",
                "ORDER 3", "orders 3", "order 3\n", "\norder 3", "order\n3", "order\t3", "order 3\t", "order 03",
                "order 00", "order +3", "order -3", "order 3.0", "order 10000", "order 00003", "order 99999",
                "order \u0663", "order \u00b2", "order 1_0", "order 0x3", "order\u00a03", "order 3\r", "order,3",
                "levels", "levels 3", "levels 0 3", "levels 6 3", "levels 3 3 3", "levels 03 3", "levels 3 03",
                "levels 3  3", "levels three 3", "levels 10000 3", "levels 2 10000",
                "distances", "distances 3", "distances 3 1 2 3 4 5 6", "distances 3 1 2 3 4 5 6 7", "distances 3 01",
                "distances 3 1 -2", "distances 3 1 2 ", "distances 03 1", "distances 3 10000", "distance 3 1",
                "tell", "tell 0 1", "tell 0 1 0 0", "tell 0 1 0 ", "tell 0 1  0", "tell 00 1 0", "tell 0 1 +0",
                "tell 0 -1 0", "tell 0 1 x", "tell 0,1,0", "tell 0 1 0\ntold", "take", "take 0", "take 0 1 0",
                "take 0 01", "possible", "possible 0", "possible 0 1 0", "possible 0 01", "why", "why 0 1",
                "why 0 1 0 0", "why 0 1 00", "told 0", "told ", " told", "told\n", "fill 0", "fill ", "undo 1",
                "undo ", "undo undo", "x", "0", "0 1 0", "say told", "tolds", "TOLD", "none", "\n", "a\nb",
            ]:
                self.no_command(desk, command)
            for value in ODD_VALUES + [b"told", ["told"], ("told",), EqualToAll(), 5]:
                self.no_command(desk, value)
            if not begun:
                self.says(desk, "order 3", "ok", "tell 0 1 0", "ok")
        self.says(desk, "told", "0-1:0", "undo", "ok", "undo", "nothing")

    def test_errors_of_the_functions(self):
        desk = Desk()
        self.says(desk, "order 3", "ok", "tell 0 1 0", "ok", "tell 1 2 0", "ok")
        for error, at, command in [
            (InvalidNetwork, 0, "order 0"), (InvalidNetwork, 0, "levels 2 0"), (InvalidNetwork, 0, "distances 0 1 2"),
            (InvalidKind, 0, "distances 3 0"), (InvalidKind, 1, "distances 3 1 1"),
            (InvalidKind, 2, "distances 3 1 3 2"),
            (InvalidKind, 0, "distances 0 0 1"), (NotDeciding, 0, "distances 3 1 2 4"),
            (NotDeciding, 0, "distances 0 1 2 4"), (InvalidKind, 4, "distances 0 1 2 4 8 8"),
            (Refused, 0, "tell 0 0 0"), (Refused, 0, "tell 0 3 0"), (Refused, 0, "tell 9999 1 0"),
            (Refused, 0, "tell 0 3 2"), (Refused, 1, "tell 0 1 2"), (Refused, 1, "tell 0 1 9999"),
            (Refused, 2, "tell 0 1 0"), (Refused, 2, "tell 1 0 0"), (Refused, 3, "tell 0 2 1"),
            (Refused, 0, "take 0 0"), (Refused, 0, "take 0 3"), (Refused, 2, "take 0 2"), (Refused, 2, "take 2 0"),
            (Refused, 0, "possible 0 0"), (Refused, 0, "possible 3 0"), (Refused, 0, "why 0 3 0"),
            (Refused, 0, "why 1 1 5"), (Refused, 1, "why 0 1 2"),
        ]:
            self.wrong(desk, error, at, command)
        self.says(desk, "told", "0-1:0 1-2:0", "undo", "ok", "undo", "ok", "undo", "nothing")


if __name__ == "__main__":
    unittest.main()
