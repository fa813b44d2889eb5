"""The errors about questions, groups and records."""

from partviews.errors import ViewError


class InvalidQuestion(ViewError):
    """An argument is not a question for the family."""


class InvalidGroup(ViewError):
    """An argument is not a group of the family."""


class NotARecord(ViewError):
    """An argument is not a record."""
