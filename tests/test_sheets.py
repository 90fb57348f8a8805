"""[55], [56]: sheets."""

import unittest

from ringsdecide.against import against, is_against
from ringsdecide.built import distance_kind, free_kind, level_kind, order_kind, sector_kind, sum_kind
from ringsdecide.deciding import is_verdict
from ringsdecide.errors import InvalidQuestion, NotDeciding, Refused
from ringsdecide.gluing import is_gluing_fault
from ringsdecide.kinds import Kind
from ringsdecide.meeting import is_meeting_fault
from ringsdecide.networks import Network
from ringsdecide.possible import is_way_against
from ringsdecide.reaching import is_bad_round, is_endless
from ringsdecide.sheets import sheet, sheet_holds, wrong_sheets
from tests.helpers import ODD_VALUES, Case, EqualToAll, all_but_threes

APART = all_but_threes(2)
CLASH = sector_kind(3)
ORDER = order_kind()
ROW = Network(ORDER, 4, [(0, 1, 0), (1, 2, 0), (2, 3, 0)])
LOST = Network(ORDER, 4, [(0, 1, 0), (1, 2, 0), (2, 3, 0), (3, 0, 0)])
FAULT = (((None, 0), (0, None)), (0, 1), (0, 1))


def made():
    """Questions that have a sheet: (kind of sheet, question, how the value is checked)."""
    return [
        ("apart", (APART,), is_gluing_fault), ("apart", (distance_kind((1, 2, 4)),), is_gluing_fault),
        ("apart", (Kind((0,), []),), is_gluing_fault),
        ("clash", (CLASH,), is_meeting_fault), ("clash", (sector_kind(5),), is_meeting_fault),
        ("against", (APART,), is_against), ("against", (CLASH,), is_against),
        ("round", (ORDER, 3), lambda kind, length, value: is_bad_round(kind, value) and len(value) == length),
        ("round", (ORDER, 1000), lambda kind, length, value: is_bad_round(kind, value) and len(value) == length),
        ("round", (distance_kind((1, 2, 3)), 3), lambda kind, length, value: is_bad_round(kind, value)),
        ("endless", (ORDER,), is_endless), ("endless", (sum_kind(5),), is_endless),
        ("verdict", (ROW,), is_verdict), ("verdict", (LOST,), is_verdict),
        ("verdict", (Network(sum_kind(3), 1, []),), is_verdict),
        ("way", (ROW, 0, 3, 1), is_way_against), ("way", (ROW, 3, 0, 0), is_way_against),
        ("way", (ROW, 0, 1, 1), is_way_against),
    ]


# Questions, each with its kind of sheet, that are none.
NO_QUESTIONS = [
    ("apart", ()), ("apart", (APART, APART)), ("apart", [APART]), ("apart", APART), ("apart", (ROW,)),
    ("apart", (((0, 1), ()),)), ("clash", ()), ("clash", (CLASH, 3)), ("clash", [CLASH]), ("clash", (None,)),
    ("against", ()), ("against", (APART, None)), ("against", (LOST,)), ("against", [APART]),
    ("round", ()), ("round", (ORDER,)), ("round", (ORDER, 2)), ("round", (ORDER, 1001)), ("round", (ORDER, True)),
    ("round", (ORDER, 3.0)), ("round", (ORDER, "3")), ("round", (ORDER, -3)), ("round", (ORDER, 3, 3)),
    ("round", [ORDER, 3]), ("round", (3, ORDER)), ("round", (ORDER, None)), ("round", (ORDER, (3,))),
    ("round", (ORDER, EqualToAll())), ("round", (ROW, 3)),
    ("endless", ()), ("endless", (ORDER, 3)), ("endless", (ROW,)), ("endless", [ORDER]),
    ("verdict", ()), ("verdict", (ORDER,)), ("verdict", [ROW]), ("verdict", ROW), ("verdict", (ROW, ROW)),
    ("verdict", (ROW.told,)), ("verdict", (EqualToAll(),)),
    ("way", ()), ("way", (ROW,)), ("way", (ROW, 0, 3)), ("way", (ROW, 0, 3, 1, 0)), ("way", [ROW, 0, 3, 1]),
    ("way", (ROW, 0, 0, 1)), ("way", (ROW, 0, 4, 1)), ("way", (ROW, -1, 3, 1)), ("way", (ROW, 0, 3, 2)),
    ("way", (ROW, False, 3, 1)), ("way", (ROW, 0, 3, True)), ("way", (ROW, 0, 3.0, 1)), ("way", (ROW, 0, None, 1)),
    ("way", (ROW, [0], 3, 1)), ("way", (ROW, 0, 3, EqualToAll())), ("way", (ORDER, 0, 3, 1)), ("way", (0, 3, 1, ROW)),
    ("way", (ROW, (0, 3, 1))), ("way", (EqualToAll(), 0, 3, 1)),
]


class Sheets(Case):
    def test_made_and_checked(self):
        for name, question, checks in made():
            told = sheet(name=name, question=question)
            self.assertIs(type(told), tuple)
            self.assertEqual(told[:2], (name, question))
            self.assertEqual(len(told), 3)
            self.assertIs(checks(*question, told[2]), True)
            self.assertIs(sheet_holds(value=told), True)
            self.assertIs(sheet_holds(list(told)), False)
            self.assertIs(sheet_holds(told[:2]), False)
            self.assertIs(sheet_holds(told + (None,)), False)
            for value in ODD_VALUES + [EqualToAll()]:
                self.assertIs(sheet_holds((name, question, value)), False)
                self.assertIs(sheet_holds((value, question, told[2])), False)
                self.assertIs(sheet_holds((name, value, told[2])), False)
            for other in ("apart", "clash", "against", "round", "endless", "verdict", "way", "Apart", "", "ways"):
                if other != name:
                    self.assertIs(sheet_holds((other, question, told[2])), False)

    def test_sheets_that_hold(self):
        for value in [
            ("apart", (APART,), FAULT), ("clash", (CLASH,), ((0, 0), (0, 1), (1, 1))),
            ("against", (APART,), Network(APART, 4, [(0, 1, 0), (2, 0, 0), (2, 1, 1), (3, 0, 0), (3, 1, 1)])),
            ("round", (ORDER, 4), (0, 0, 0, 0)), ("endless", (ORDER,), ((0,), (0,))),
            ("verdict", (LOST,), ("ring", (0, 1, 2, 3))), ("way", (ROW, 0, 3, 1), (0, 1, 2, 3)),
        ]:
            self.assertIs(sheet_holds(value), True, value)

    def test_sheets_that_do_not_hold(self):
        for value in [
            ("apart", (ORDER,), FAULT), ("apart", (APART,), FAULT[:2]), ("apart", (APART,), list(FAULT)),
            ("apart", (APART,), None), ("apart", (free_kind(2),), FAULT),
            ("clash", (ORDER,), ((0,), (1,), (0,))), ("clash", (CLASH,), None), ("clash", (CLASH,), ((0,), (1,))),
            ("against", (ORDER,), LOST), ("against", (ORDER,), None), ("against", (CLASH,), against(APART)),
            ("round", (ORDER, 4), (0, 0, 0)), ("round", (ORDER, 4), (0, 0, 0, 1)), ("round", (ORDER, 4), [0, 0, 0, 0]),
            ("round", (ORDER, 5), (0, 0, 0, 0)), ("round", (distance_kind((1, 2, 3)), 4), (0, 0, 0, 2)),
            ("endless", (ORDER,), ((0,), (1,))), ("endless", (ORDER,), None),
            ("endless", (free_kind(2),), ((0,), (0,))), ("endless", (ORDER,), ([0], [0])),
            ("verdict", (ROW,), ("ring", (0, 1, 2, 3))), ("verdict", (LOST,), ("full", (0, 1, 2, 3))),
            ("verdict", (LOST,), None), ("way", (ROW, 0, 3, 1), (3, 2, 1, 0)), ("way", (ROW, 0, 3, 0), (0, 1, 2, 3)),
            ("way", (ROW, 0, 3, 1), (0, 3)), ("way", (ROW, 0, 3, 1), [0, 1, 2, 3]), ("way", (ROW, 0, 3, 1), None),
        ]:
            self.assertIs(sheet_holds(value), False, value)

    def test_where_an_error_is_raised(self):
        # Kinds that do not glue, or do not meet, where the function that checks refuses them.
        for value in [
            ("round", (APART, 3), (0, 0, 0)), ("endless", (APART,), ((0,), (0,))),
            ("verdict", (Network(APART, 1, []),), ("full", ((None,),))),
            ("verdict", (Network(CLASH, 1, []),), ("full", ((None,),))),
            ("way", (Network(CLASH, 3, [(0, 1, 0)]), 0, 1, 1), (0, 1)),
            ("way", (Network(APART, 3, [(0, 1, 0)]), 0, 1, 1), (0, 1)),
        ]:
            self.assertIs(sheet_holds(value), False)

    def test_questions(self):
        values = [told for told in (sheet(name, question) for name, question, _ in made())]
        for name, question in NO_QUESTIONS:
            self.refused(Refused, 1, sheet, name, question)
            for _, _, shown in values:
                self.assertIs(sheet_holds((name, question, shown)), False)
        for value in ODD_VALUES:
            for name in ("apart", "clash", "against", "round", "endless", "verdict", "way"):
                self.refused(Refused, 1, sheet, name, value)
                self.refused(Refused, 1, sheet, name, (value,))

    def test_any_value_is_no_sheet(self):
        for value in ODD_VALUES + [EqualToAll(), "apart", ("apart",), ("apart", (APART,)), (EqualToAll(),) * 3]:
            self.assertIs(sheet_holds(value), False)


class Making(Case):
    def test_names_refused(self):
        for name in ODD_VALUES + ["Apart", "apart ", "ways", b"apart", ("apart",), ["apart"], EqualToAll(), {}]:
            for question in [(APART,), None, (ORDER, 3), ()]:
                self.refused(Refused, 0, sheet, name, question)

    def test_none_is_told(self):
        for name, kind in [("apart", ORDER), ("apart", CLASH), ("clash", ORDER), ("clash", level_kind(2)),
                           ("against", ORDER), ("against", distance_kind((1, 2, 3))), ("endless", free_kind(2)),
                           ("endless", distance_kind((1, 2, 3)))]:
            self.refused(Refused, 2, sheet, name, (kind,))

    def test_errors_of_the_functions(self):
        self.refused(NotDeciding, 0, sheet, "round", (APART, 3))
        self.refused(NotDeciding, 0, sheet, "endless", (APART,))
        self.refused(NotDeciding, 0, sheet, "verdict", (Network(APART, 2, []),))
        self.refused(NotDeciding, 1, sheet, "verdict", (Network(CLASH, 2, []),))
        self.refused(NotDeciding, 1, sheet, "way", (Network(CLASH, 2, []), 0, 1, 0))
        self.refused(Refused, 0, sheet, "round", (distance_kind((1, 2, 3)), 4))
        self.refused(Refused, 0, sheet, "round", (free_kind(2), 3))
        self.refused(Refused, 0, sheet, "way", (ROW, 0, 3, 0))
        self.refused(Refused, 1, sheet, "way", (LOST, 0, 3, 0))
        self.refused(Refused, 0, sheet, "against", (sector_kind(7),))


class WrongSheets(Case):
    def test_wrong_sheets(self):
        good = [sheet(name, question) for name, question, _ in made()[:4]]
        values = [good[0], None, good[1], ("apart", (ORDER,), FAULT), good[2][:2], good[3], list(good[0]), EqualToAll()]
        self.assertEqual(wrong_sheets(values=values), (1, 3, 4, 6, 7))
        self.assertEqual(wrong_sheets(tuple(values)), (1, 3, 4, 6, 7))
        self.assertEqual(len(values), 8)
        self.assertEqual(wrong_sheets([]), ())
        self.assertEqual(wrong_sheets(()), ())
        self.assertEqual(wrong_sheets(good), ())
        # A sheet is a sequence itself, of which no entry is a sheet.
        self.assertEqual(wrong_sheets(good[0]), (0, 1, 2))

    def test_no_sequence(self):
        for value in ODD_VALUES + [EqualToAll(), "apart", {}]:
            if type(value) not in (list, tuple):
                self.refused(InvalidQuestion, 0, wrong_sheets, value)


if __name__ == "__main__":
    unittest.main()
