"""The errors of the package: one class for each kind of failure."""


class SpreadError(ArithmeticError):
    """The base class of all errors of the package."""


class InvalidText(SpreadError):
    """What is no text: `at` is -1 for what is no list, otherwise the index where it fails."""

    def __init__(self, at):
        SpreadError.__init__(self, f"not a text, at {at}")
        self.at = at


class InvalidSpread(SpreadError):
    """What is no spread: `at` is -1 for what is no list, otherwise the index where it fails."""

    def __init__(self, at):
        SpreadError.__init__(self, f"not a spread, at {at}")
        self.at = at


class InvalidSymbol(SpreadError):
    """A `symbol` that is none of a table."""

    # The symbol may be any object, nested however deep, so the message does not show it.
    def __init__(self, symbol):
        SpreadError.__init__(self, "not a symbol of the table")
        self.symbol = symbol


class InvalidStream(SpreadError):
    """What is no stream: `at` is -1 for what is no list, otherwise the index where it fails."""

    def __init__(self, at):
        SpreadError.__init__(self, f"not a stream, at {at}")
        self.at = at


class InvalidHeader(SpreadError):
    """What is no header: `at` is -1 for what is no list, otherwise the index where it fails."""

    def __init__(self, at):
        SpreadError.__init__(self, f"not a header, at {at}")
        self.at = at


class InvalidBound(SpreadError):
    """An invalid argument: `argument` is its name."""

    def __init__(self, argument):
        SpreadError.__init__(self, f"invalid argument: {argument}")
        self.argument = argument


class InvalidCall(SpreadError):
    """A `call` that is none, or that is not possible."""

    # The call may be any object, nested however deep, so the message does not show it.
    def __init__(self, call):
        SpreadError.__init__(self, "not a call, or not a possible one")
        self.call = call


class LimitExceeded(SpreadError):
    """Valid arguments that ask for more than the `limit`."""

    def __init__(self, limit):
        SpreadError.__init__(self, f"beyond the limit of {limit}")
        self.limit = limit
