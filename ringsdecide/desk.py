"""Desks: books kept by commands of words and numbers."""

from ringsdecide.book import Book
from ringsdecide.built import distance_kind, level_kind, order_kind
from ringsdecide.cells import all_pairs
from ringsdecide.errors import InvalidCommand
from ringsdecide.kindtexts import FIGURES, line_of

MOST_FIGURES = 4
MOST_DISTANCES = 5
MOST_LEVELS = 5
# How many numbers stand behind each word; behind `distances` there are two or more.
NUMBERS = {
    "order": 1, "levels": 2, "tell": 3, "take": 2, "possible": 2, "why": 3, "told": 0, "fill": 0, "undo": 0,
}


def number_of(word):
    """The number that is written so; any other word is refused."""
    if not 1 <= len(word) <= MOST_FIGURES or word[0] == "0" and len(word) > 1:
        raise InvalidCommand()
    for figure in word:
        if figure not in FIGURES:
            raise InvalidCommand()
    return int(word)


def command_parts(command):
    """The first word of a command and the numbers behind it; any value is refused that has no such form."""
    if not isinstance(command, str):
        raise InvalidCommand()
    word, *rest = command.split(" ")
    numbers = tuple([number_of(written) for written in rest])
    if word == "distances":
        if not 2 <= len(numbers) <= 1 + MOST_DISTANCES:
            raise InvalidCommand()
    elif NUMBERS.get(word) != len(numbers):
        raise InvalidCommand()
    if word == "levels" and not 1 <= numbers[0] <= MOST_LEVELS:
        raise InvalidCommand()
    return word, numbers


def new_book(word, numbers):
    """The book that a command begins, or None if it begins none."""
    if word == "order":
        return Book(order_kind(), numbers[0])
    if word == "levels":
        return Book(level_kind(numbers[0]), numbers[1])
    if word == "distances":
        return Book(distance_kind(numbers[1:]), numbers[0])
    return None


def told_text(triples):
    """What is told, pair by pair."""
    return " ".join([f"{u}-{v}:{x}" for u, v, x in triples])


def why_text(ring):
    """The answer to `why`, by what `why_not` tells."""
    if ring is None:
        return "possible"
    return line_of(ring) if ring else "told otherwise"


def fill_text(rows):
    """The relations of all pairs of a full network."""
    return told_text([(u, v, rows[u][v]) for u, v in all_pairs(len(rows))]) or "alone"


def answered(book, word, numbers):
    """Do what a command wants of a book; the answer."""
    if word == "tell":
        book.tell(*numbers)
    if word == "take":
        book.take(*numbers)
    if word == "possible":
        return line_of(book.possible(*numbers))
    if word == "why":
        return why_text(book.why_not(*numbers))
    if word == "told":
        return told_text(book.network().told) or "nothing"
    if word == "fill":
        return fill_text(book.completion())
    if word == "undo" and not book.undo():
        return "nothing"
    return "ok"


class Desk:
    """A desk with at most one book on it."""

    def __init__(self):
        self.book = None

    def say(self, command):
        """Do a command; the answer is a text."""
        word, numbers = command_parts(command)
        book = new_book(word, numbers)
        if book is not None:
            self.book = book
            return "ok"
        if self.book is None:
            raise InvalidCommand()
        return answered(self.book, word, numbers)
