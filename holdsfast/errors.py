"""The errors of the package, one class for each kind of failure."""


class NetError(ValueError):
    """Something is not of the form that a net asks for."""


class InvalidNet(NetError):
    """There is no such net."""


class InvalidLot(NetError):
    """There is no such lot."""


class InvalidParting(NetError):
    """There is no such parting."""


class InvalidOperation(NetError):
    """An operation does not fit what it is applied to."""


# The classes below give Python a text of their own, not what they keep: that
# may be of any size, and Python refuses to write very long numbers.


class ParseError(NetError):
    """A text cannot be read; `line` is the index of the line, or None."""

    def __init__(self, line):
        NetError.__init__(self, "the text cannot be read")
        self.line = line


class UnknownPlace(KeyError):
    """A value is no place of the net; `place` is the value."""

    def __init__(self, place):
        KeyError.__init__(self, "this is no place of the net")
        self.place = place


class InvalidNumber(ArithmeticError):
    """A value is no number that can stand there; `value` is the value."""

    def __init__(self, value):
        ArithmeticError.__init__(self, "this number cannot stand here")
        self.value = value


class TooMany(OverflowError):
    """There are more than the limit lets; `limit` is the limit."""

    def __init__(self, limit):
        OverflowError.__init__(self, "there are more than the limit lets")
        self.limit = limit


class NothingToUndo(IndexError):
    """There are not so many steps to take back; `many` is how many were asked for."""

    def __init__(self, many):
        IndexError.__init__(self, "there are not so many steps")
        self.many = many


class Refused(RuntimeError):
    """Something is well formed, but it cannot be done; `reason` tells why."""

    def __init__(self, reason):
        RuntimeError.__init__(self, "this cannot be done")
        self.reason = reason
