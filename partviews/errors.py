"""The errors that the program raises."""


class ViewError(ValueError):
    """The base class of all errors of the program."""


class InvalidNames(ViewError):
    """An argument is not a name set."""


class InvalidFamily(ViewError):
    """An argument is not a family."""


class InvalidLog(ViewError):
    """An argument is not a log."""


class InvalidCase(ViewError):
    """An argument is not a case."""


class InvalidNumber(ViewError):
    """An argument is not a number that the function takes."""


class InvalidRing(ViewError):
    """An argument is not a ring that the function takes."""


class CountConflict(ViewError):
    """The case has a count conflict."""


class Impossible(ViewError):
    """No log fits the case."""


class NotUndecided(ViewError):
    """The order of two events is certain, or they are one event."""


class Contradiction(ViewError):
    """The views would contradict each other."""


class NothingSeen(ViewError):
    """The view of an observer is empty."""


class TooLong(ViewError):
    """There are more events than the function takes."""


class TooMany(ViewError):
    """There are more results than the function gives."""


class NotACertificate(ViewError):
    """An argument is not a certificate."""


# The messages of the errors below do not show the argument: it may be any
# value, and Python refuses to write out very long integers.


class UnknownEvent(ViewError):
    """An argument is not an event of the case."""

    def __init__(self, event):
        super().__init__("not an event of the case")
        self.event = event


class InvalidObserver(ViewError):
    """An argument is not the number of an observer."""

    def __init__(self, number):
        super().__init__("not the number of an observer")
        self.number = number


class NotSeen(ViewError):
    """An argument is not a name that the observer sees."""

    def __init__(self, name):
        super().__init__("not a name that the observer sees")
        self.name = name


class Full(ViewError):
    """There is no room for one more."""

    def __init__(self, limit):
        super().__init__("the limit is reached")
        self.limit = limit


class InvalidMark(ViewError):
    """An argument is not the number of a mark."""

    def __init__(self, number):
        super().__init__("not the number of a mark")
        self.number = number
