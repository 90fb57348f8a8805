"""What any value is: a number, a sequence, a relation, a triple, a lot."""


def is_integer(value):
    """Whether any value is an integer; True and False are none."""
    return isinstance(value, int) and not isinstance(value, bool)


def is_number(value):
    """Whether any value is an integer from 0 on."""
    return is_integer(value) and value >= 0


def is_below(value, many):
    """Whether any value is a number below `many`: one of so many relations or places."""
    return is_number(value) and value < many


def is_sequence(value):
    """Whether any value is a list or a tuple."""
    return isinstance(value, (list, tuple))


def are_below(values, many):
    """Whether all entries of a sequence are numbers below `many`."""
    for value in values:
        if not is_below(value, many):
            return False
    return True


def is_row(value, length, many):
    """Whether any value is a tuple of so many numbers below `many`."""
    return isinstance(value, tuple) and len(value) == length and are_below(value, many)


def is_triple(value, many):
    """Whether any value is a triple of numbers below `many`."""
    return is_row(value, 3, many)
