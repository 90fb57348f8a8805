"""[9]: texts of kinds."""

import unittest

from ringsdecide.built import free_kind, level_kind, order_kind, sector_kind
from ringsdecide.errors import InvalidText
from ringsdecide.kinds import Kind
from ringsdecide.kindtexts import kind_text, read_kind
from tests.helpers import ODD_VALUES, Case, small_kinds

ORDER = "turned 1 0\n0 0 0\n0 1 0\n0 1 1\n1 0 0\n1 0 1\n1 1 1"


class Texts(Case):
    def test_text(self):
        self.assertEqual(kind_text(kind=order_kind()), ORDER)
        self.assertEqual(kind_text(Kind((0,), [])), "turned 0")
        self.assertEqual(kind_text(Kind((0, 2, 1), [])), "turned 0 2 1")

    def test_read(self):
        self.assertEqual(read_kind(text=ORDER), order_kind())
        for kind in small_kinds() + [free_kind(6), level_kind(5), sector_kind(6)]:
            self.assertEqual(read_kind(kind_text(kind)), kind)
            self.assertIs(type(kind_text(kind)), str)

    def test_no_text(self):
        for value in ODD_VALUES:
            if value != "turned 0":
                self.refused(InvalidText, 0, read_kind, value)
        self.refused(InvalidText, 0, read_kind, [ORDER])
        self.refused(InvalidText, 0, read_kind, ORDER.encode())

    def test_first_line(self):
        for line in [
            "", "turned", "turned ", " turned 0", "turned  0", "turned 0 ", "turned 1", "turned 0 2", "turned 1 2 0",
            "turned 00", "turned +0", "turned -0", "Turned 0", "turn 0", "0", "turned 0 1 2 3 4 5 6", "turned\t0",
            "turned 0\r", "turned \u0660", "turned \u00b2", "turned 0 0", "turned 1 1", "turned x", "turned 0 1 turned",
            "turned 0 1 2 3 4 5 6 7 8 9",
        ]:
            self.refused(InvalidText, 0, read_kind, line)
            self.refused(InvalidText, 0, read_kind, line + "\n0 0 0")

    def test_further_lines(self):
        for line in [
            "", " ", "0 0", "0 0 0 0", "0  0 0", " 0 0 0", "0 0 0 ", "0 0 2", "0 0 -1", "0 0 9", "00 0 0", "0 0 x",
            "0,0,0", "0 0 0\r", "0 0 \u0661", "turned 0 1", "000", "0\t0 0",
        ]:
            self.refused(InvalidText, 1, read_kind, "turned 0 1\n" + line)
            self.refused(InvalidText, 2, read_kind, "turned 0 1\n0 0 0\n" + line + "\n1 1 1")
            # A line that is not as told comes ahead of lacking readings.
            self.refused(InvalidText, 2, read_kind, "turned 0 1\n0 0 1\n" + line)

    def test_order_of_lines(self):
        self.refused(InvalidText, 2, read_kind, "turned 0 1\n0 0 0\n0 0 0")
        self.refused(InvalidText, 2, read_kind, "turned 0 1\n1 1 1\n0 0 0")
        self.refused(InvalidText, 3, read_kind, "turned 0 1\n0 0 1\n0 1 0\n0 0 1")
        self.assertEqual(read_kind("turned 0 1\n0 0 0\n1 1 1"), Kind((0, 1), [(1, 1, 1), (0, 0, 0)]))

    def test_newlines(self):
        self.refused(InvalidText, 7, read_kind, ORDER + "\n")
        self.refused(InvalidText, 1, read_kind, "turned 0\n")
        self.refused(InvalidText, 0, read_kind, "\nturned 0")
        self.refused(InvalidText, 0, read_kind, ORDER.replace("\n", "\r\n"))
        self.refused(InvalidText, 0, read_kind, ORDER.replace("\n", "\u2028"))

    def test_lacking_readings(self):
        lines = ORDER.split("\n")
        for at in range(1, len(lines)):
            self.refused(InvalidText, 6, read_kind, "\n".join(lines[:at] + lines[at + 1:]))
        self.refused(InvalidText, 2, read_kind, "turned 0 1\n0 0 1")


if __name__ == "__main__":
    unittest.main()
