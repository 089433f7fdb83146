"""The refusals of the program, each a class of its own."""


class MapError(ValueError):
    """Any refusal."""


class NoPattern(MapError):
    """What was to be a pattern is none."""


class NoMap(MapError):
    """There is no such map."""


class TooMany(MapError):
    """More would have to be told than is told."""


class NoSaying(MapError):
    """What was to be a saying is none."""


class NoName(MapError):
    """Nothing is kept by this name."""


class BadNote(MapError):
    """A text, or what should be one, that can't be read."""
