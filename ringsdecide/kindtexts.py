"""Kinds written as texts, and read again."""

from ringsdecide.errors import InvalidKind, InvalidText
from ringsdecide.kinds import Kind, check_turned, lacking_reading

FIGURES = "0123456789"
MOST_RELATIONS = 6


def line_of(numbers):
    """Numbers, with single spaces between them."""
    return " ".join([str(number) for number in numbers])


def kind_text(kind):
    """The text of a kind: a line for what is turned, then a line for each triple."""
    lines = [f"turned {line_of(kind.turned)}"]
    for triple in kind.triples:
        lines.append(line_of(triple))
    return "\n".join(lines)


def figures(words):
    """The numbers that these words are as single figures, or None if one is none."""
    for word in words:
        if len(word) != 1 or word not in FIGURES:
            return None
    return tuple([int(word) for word in words])


def turned_of(line):
    """The turned relations that a line tells, or None if it is not as told."""
    words = line.split(" ")
    turned = figures(words[1:])
    if words[0] != "turned" or turned is None or len(turned) > MOST_RELATIONS:
        return None
    try:
        check_turned(turned)
    except InvalidKind:
        return None
    return turned


def triple_of(line, many):
    """The triple of so many relations that a line tells, or None if it is not as told."""
    numbers = figures(line.split(" "))
    if numbers is None or len(numbers) != 3 or max(numbers) >= many:
        return None
    return numbers


def read_kind(text):
    """The kind with exactly this text."""
    if not isinstance(text, str):
        raise InvalidText(0)
    lines = text.split("\n")
    turned = turned_of(lines[0])
    if turned is None:
        raise InvalidText(0)
    triples = []
    for at in range(1, len(lines)):
        triple = triple_of(lines[at], len(turned))
        if triple is None or triples and triple <= triples[-1]:
            raise InvalidText(at)
        triples.append(triple)
    if lacking_reading(turned, triples) is not None:
        raise InvalidText(len(lines))
    return Kind(turned, triples)
