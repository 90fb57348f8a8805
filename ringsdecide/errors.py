"""The errors of the package; each one with an argument keeps it as `at`."""


class RingsError(ValueError):
    """Any refusal of this package."""


class InvalidKind(RingsError):
    """What was passed is no kind, or does not name or rename one."""

    def __init__(self, at):
        RingsError.__init__(self, "this is no kind")
        self.at = at


class InvalidNetwork(RingsError):
    """What was passed is no network."""

    def __init__(self, at):
        RingsError.__init__(self, "this is no network")
        self.at = at


class InvalidWord(RingsError):
    """What was passed is no word, or no words."""

    def __init__(self, at):
        RingsError.__init__(self, "this is no word")
        self.at = at


class InvalidQuestion(RingsError):
    """What was asked about is not such a thing."""

    def __init__(self, at):
        RingsError.__init__(self, "this cannot be asked")
        self.at = at


class InvalidText(RingsError):
    """What was passed is not the text of a kind."""

    def __init__(self, at):
        RingsError.__init__(self, "this is not the text of a kind")
        self.at = at


class NotDeciding(RingsError):
    """The kind does not glue (0), or does not meet (1)."""

    def __init__(self, at):
        RingsError.__init__(self, "the kind does not decide")
        self.at = at


class Refused(RingsError):
    """What was asked for is not to be had."""

    def __init__(self, at):
        RingsError.__init__(self, "this is refused")
        self.at = at


class InvalidCommand(RingsError):
    """A command has no such form."""
