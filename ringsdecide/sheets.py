"""Sheets: a question with a value that answers it, which anybody can check."""

from ringsdecide.against import against, is_against
from ringsdecide.deciding import is_verdict, verdict
from ringsdecide.errors import InvalidQuestion, Refused, RingsError
from ringsdecide.gluing import gluing_fault, is_gluing_fault
from ringsdecide.kinds import Kind
from ringsdecide.meeting import is_meeting_fault, meeting_fault
from ringsdecide.networks import Network, is_told_triple
from ringsdecide.possible import is_way_against, way_against
from ringsdecide.reaching import bad_round, endless, is_bad_round, is_endless
from ringsdecide.values import is_integer, is_sequence

MOST_LENGTH = 1000


def is_round_of(kind, length, value):
    """Whether any value is a bad round of so many relations."""
    return is_bad_round(kind, value) and len(value) == length


def functions_of(name):
    """The function that makes the value of a sheet and the one that checks it; None if any value names no sheet."""
    if not isinstance(name, str):
        return None
    table = {
        "apart": (gluing_fault, is_gluing_fault),
        "clash": (meeting_fault, is_meeting_fault),
        "against": (against, is_against),
        "round": (bad_round, is_round_of),
        "endless": (endless, is_endless),
        "verdict": (verdict, is_verdict),
        "way": (way_against, is_way_against),
    }
    return table.get(name)


def is_length(value):
    """Whether any value is a length of a round."""
    return is_integer(value) and 3 <= value <= MOST_LENGTH


def is_question(name, value):
    """Whether any value is a question for a sheet of this name."""
    if not isinstance(value, tuple) or len(value) == 0:
        return False
    if name == "verdict":
        return len(value) == 1 and isinstance(value[0], Network)
    if name == "way":
        return isinstance(value[0], Network) and is_told_triple(value[0].kind, value[0].places, value[1:])
    if not isinstance(value[0], Kind):
        return False
    if name == "round":
        return len(value) == 2 and is_length(value[1])
    return len(value) == 1


def sheet_holds(value):
    """Whether any value is a sheet that holds."""
    if not isinstance(value, tuple) or len(value) != 3:
        return False
    name, question, shown = value
    functions = functions_of(name)
    if functions is None or not is_question(name, question):
        return False
    _, checks = functions
    try:
        return checks(*question, shown)
    except RingsError:
        return False


def sheet(name, question):
    """A sheet of this name and question that holds."""
    functions = functions_of(name)
    if functions is None:
        raise Refused(0)
    if not is_question(name, question):
        raise Refused(1)
    makes, _ = functions
    shown = makes(*question)
    if shown is None:
        raise Refused(2)
    return (name, question, shown)


def wrong_sheets(values):
    """The indexes of those of a sequence that are no sheets that hold."""
    if not is_sequence(values):
        raise InvalidQuestion(0)
    return tuple([at for at, value in enumerate(values) if not sheet_holds(value)])
