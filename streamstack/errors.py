"""Errors: what can go wrong in streams of events."""


class StreamError(ValueError):
    """All errors of the package."""


class RowError(StreamError):
    """A row, a value or bytes are invalid."""


class QueryError(StreamError):
    """A query's text, or what it means, is invalid."""


class LogError(StreamError):
    """A log, a part of it or a place in it is invalid."""


class GroupError(StreamError):
    """A member, a group or its agreement is invalid."""


class JobError(StreamError):
    """A job's graph or plan is invalid, or it cannot go on so."""


class SnapshotError(StreamError):
    """A snapshot is missing, damaged or does not fit."""
